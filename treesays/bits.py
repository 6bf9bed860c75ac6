"""Sets of small numbers, written as an integer with the bit n for the number n."""


def numbers_in(bits):
    """The ascending list of the numbers in a set."""
    found = []
    left = bits
    while left:
        found.append((left & -left).bit_length() - 1)
        left &= left - 1
    return found
