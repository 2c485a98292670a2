import random
import unittest

from lowtricks.errors import InvalidIndex, InvalidSteps
from lowtricks.tails import settled_at, tail_after, tails_of, written_while
from plain_check import (
    BIG, TABLE, PlainRun, limit_steps, many_numbers, many_steps, masks_of, plain_applied, plain_merged,
)


class Examples(unittest.TestCase):
    def test_tails(self):
        steps = ('c', 5, 'f', 's')
        found = [list(tails_of(steps, 0)), settled_at(steps, 0), tail_after(steps, 0, 10 ** 30),
                 written_while(steps, 0, 4)]
        self.assertEqual(found, [[(5, 'f', 's'), (2, 's'), (1,), ()], 3, (), 7])

    def test_eleventh_point(self):
        steps = ("c", 5, "f", "s")
        found = [tail_after(steps, 0, place) for place in range(6)]
        self.assertEqual(found, [(5, "f", "s"), (2, "s"), (1,), (), (), ()])
        self.assertEqual([written_while(steps, 0, place) for place in range(6)], [0, 1, 3, 7, 7, 7])


def tail_run(steps, index, many):
    """The steps behind a mask after so many bits that the mask writes."""
    run = PlainRun(steps[index + 1:])
    for _ in range(many):
        run.feed(TABLE[steps[index]][1])
    return run


class Tails(unittest.TestCase):
    def test_numbers_with_which_the_mask_works(self):
        for steps in many_steps(70, 150):
            for number in many_numbers(71, 4):
                run = PlainRun(steps)
                for place in range(60):
                    for index in masks_of(steps):
                        if run.works(index):
                            self.assertEqual(tail_after(steps, index, place), run.behind(index), (steps, index, place))
                    run.feed(number // 2 ** place % 2)

    def test_masks_taken_to_write_their_bit(self):
        for steps in many_steps(72, 100) + limit_steps(72, 6):
            for index in masks_of(steps):
                for place in [0, 1, 2, 6, 107, 150]:
                    expected = tail_run(steps, index, place).rest()
                    self.assertEqual(tail_after(steps, index, place), expected, (steps, index, place))

    def test_masks_that_work_so_long_for_no_number(self):
        # The second mask always ends at bit 0.
        self.assertEqual(list(tails_of(("f", "f", 3, "s"), 1)), [(3, "s"), (2,), (1,)])
        self.assertEqual(tail_after(("f", "f", 3, "s"), 1, 10 ** 30), (1,))
        self.assertEqual(settled_at(("f", "f", 3, "s"), 1), 2)
        self.assertEqual(written_while(("f", "f", 3, "s"), 1, 5), plain_applied((3, "s"), -1) % 32)
        self.assertEqual(list(tails_of(("c", "s", "c", -4, "c"), 2)), [(-4, "c"), (-2, "c"), (-1, "c"), (-1,)])

    def test_merged_from_the_start(self):
        self.assertEqual(tail_after(("c", 2, 0, 3, "f", 1, -1), 0, 0), (5, "f"))
        self.assertEqual(tail_after(("c",), 0, 0), ())
        self.assertEqual(list(tails_of(("c", 0, 3, -3), 0)), [()])
        self.assertEqual(settled_at(("c", 0, 3, -3), 0), 0)
        self.assertEqual(list(tails_of(("s", "s"), 0)), [("s",)])
        self.assertEqual(list(tails_of(("s", "f"), 0)), [("f",), ()])

    def test_integers_that_stay(self):
        self.assertEqual(list(tails_of(("c", -1), 0)), [(-1,)])
        self.assertEqual(list(tails_of(("c", 1), 0)), [(1,), ()])
        self.assertEqual(list(tails_of(("s", 1), 0)), [(1,)])
        self.assertEqual(list(tails_of(("s", -1), 0)), [(-1,), ()])
        self.assertEqual(settled_at(("c", BIG), 0), BIG.bit_length())
        self.assertEqual(tail_after(("c", -BIG), 0, 200), (-1,))
        self.assertEqual(tail_after(("s", BIG), 0, 200), (1,))

    def test_tail_after_settled_at_and_tails_of_fit(self):
        for steps in many_steps(73, 150) + limit_steps(73, 10):
            for index in masks_of(steps):
                tails = list(tails_of(steps, index))
                settled = settled_at(steps, index)
                self.assertEqual(settled, len(tails) - 1)
                self.assertEqual(tails[0], plain_merged(steps[index + 1:]))
                self.assertEqual([type(tail) for tail in tails], [tuple] * len(tails))
                run = tail_run(steps, index, 0)
                for place in range(settled + 40):
                    expected = tails[min(place, settled)]
                    self.assertEqual(run.rest(), expected, (steps, index, place))
                    run.feed(TABLE[steps[index]][1])
                for place in [0, 1, settled - 1, settled, settled + 1, settled + 5, 10 ** 30]:
                    if place >= 0:
                        self.assertEqual(tail_after(steps, index, place), tails[min(place, settled)])
                if settled:
                    self.assertNotEqual(tails[-2], tails[-1])

    def test_far_places(self):
        for steps in limit_steps(74, 10):
            for index in masks_of(steps):
                last = list(tails_of(steps, index))[-1]
                for place in [10 ** 4, 10 ** 30, 10 ** 70]:
                    self.assertEqual(tail_after(steps, index, place), last)


class Generators(unittest.TestCase):
    steps = ("c", BIG, "f", -BIG, "t", BIG, "s")

    def test_items_one_by_one(self):
        walk = tails_of(self.steps, 0)
        self.assertIs(iter(walk), walk)
        self.assertEqual(next(walk), self.steps[1:])
        self.assertEqual(next(walk), tail_run(self.steps, 0, 1).rest())

    def test_left_early(self):
        walk = tails_of(self.steps, 0)
        next(walk)
        walk.close()
        for tail in tails_of(self.steps, 0):
            self.assertEqual(tail, self.steps[1:])
            break
        self.assertEqual(next(tails_of(self.steps, 0)), self.steps[1:])

    def test_first_items_of_very_many(self):
        # Thousands of items would follow; only the first ones are asked for.
        steps = ("c", 2 ** 100000)
        walk = tails_of(steps, 0)
        self.assertEqual([next(walk), next(walk)], [(2 ** 100000,), (2 ** 99999,)])

    def test_two_at_the_same_time(self):
        other = ("s", 77, "c", -5, "f")
        one, two, three = tails_of(self.steps, 0), tails_of(other, 0), tails_of(self.steps, 0)
        rows = ([], [], [])
        for _ in range(400):
            for walk, row in zip((one, two, three), rows):
                tail = next(walk, None)
                if tail is not None:
                    row.append(tail)
        self.assertEqual(rows[0], list(tails_of(self.steps, 0)))
        self.assertEqual(rows[1], list(tails_of(other, 0)))
        self.assertEqual(rows[2], rows[0])

    def test_errors_with_the_first_item(self):
        walk = tails_of(5, "no index")
        with self.assertRaises(InvalidSteps):
            next(walk)
        walk = tails_of(("c", 5), 1)
        with self.assertRaises(InvalidIndex):
            next(walk)


class Written(unittest.TestCase):
    def test_numbers_with_which_the_mask_works(self):
        for steps in many_steps(80, 150):
            for number in many_numbers(81, 5):
                run = PlainRun(steps)
                for place in range(50):
                    for index in masks_of(steps):
                        if run.works(index):
                            expected = plain_applied(steps, number) % 2 ** place
                            self.assertEqual(written_while(steps, index, place), expected, (steps, index, place))
                    run.feed(number // 2 ** place % 2)

    def test_masks_taken_to_write_their_bit(self):
        for steps in many_steps(82, 100) + limit_steps(82, 8):
            for index in masks_of(steps):
                for place in [0, 1, 2, 3, 50, 107, 199, 200]:
                    expected = tail_run(steps, index, place).number()
                    self.assertEqual(written_while(steps, index, place), expected, (steps, index, place))

    def test_edges(self):
        self.assertEqual([written_while((mask,), 0, 3) for mask in "csft"], [0, 7, 7, 0])
        self.assertEqual([written_while((mask,), 0, 0) for mask in "csft"], [0, 0, 0, 0])
        self.assertEqual(written_while(("s",), 0, 200), 2 ** 200 - 1)
        self.assertEqual(written_while(("c", -1), 0, 200), 2 ** 200 - 1)
        self.assertEqual(written_while(("s", 1), 0, 200), 0)
        self.assertEqual(written_while(("c", BIG), 0, 200), BIG)
        self.assertEqual(written_while(("c", -BIG), 0, 200), 2 ** 200 - BIG)

    def test_steps_ahead_do_not_count(self):
        chance = random.Random(83)
        for _ in range(50):
            ahead = (chance.randint(-9, 9), chance.choice("csft"))
            steps = ("t", chance.randint(-99, 99), "f", chance.randint(-9, 9))
            for place in [0, 3, 20]:
                self.assertEqual(written_while(ahead + steps, 2, place), written_while(steps, 0, place))
                self.assertEqual(tail_after(ahead + steps, 2, place), tail_after(steps, 0, place))


if __name__ == "__main__":
    unittest.main()
