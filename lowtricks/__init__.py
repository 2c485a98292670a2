"""Lists of tricks with the low bits of an integer."""
