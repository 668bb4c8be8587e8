"""Allwordlengths: programs on words of bits, for every length at once."""
