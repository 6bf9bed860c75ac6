"""Recurrences that sequences of integers keep (point 18)."""

# An integer is told by what it is modulo a number if it is nearer to 0 than half
# of this number. Those of a least recurrence are less than 4 to the 300th: the
# machines have at most 300 states and 3 labels. So this many bits are enough.
MODULUS_BITS = 607


def is_kept(terms, numbers):
    """Whether terms keep a recurrence at all places where there are terms enough to tell."""
    length = len(numbers)
    for start in range(len(terms) - length):
        told = sum([number * terms[start + length - 1 - k] for k, number in enumerate(numbers)])
        if terms[start + length] != told:
            return False
    return True


def least_recurrence(terms):
    """The least recurrence of a sequence, by its first terms, twice as many as it needs at the most."""
    modulus = (1 << MODULUS_BITS) - 1
    found = None
    # What is kept is kept modulo each number. So the least recurrence modulo a
    # number has no more integers than the least one; if it is kept, it is this
    # one. It is kept unless the modulus has one of finitely many prime factors.
    while found is None or not is_kept(terms, found):
        found = recurrence_modulo(terms, modulus)
        modulus += 2
    return found


def recurrence_modulo(terms, modulus):
    """The least recurrence that terms keep modulo an odd number, with integers as near to 0
    as may be; or None if one is met that has no inverse.

    After Berlekamp and Massey: while one recurrence is kept from place to place,
    another one, which failed at an earlier place, tells how to mend it.
    """
    # Polynomials with 1 as the first number: minus the recurrence behind it.
    now, failed = [1], [1]
    length, gap, inverse = 0, 1, 1
    for place, _ in enumerate(terms):
        error = sum([number * terms[place - k] for k, number in enumerate(now)]) % modulus
        own_inverse = _inverse(error, modulus)
        if error == 0:
            gap += 1
        elif own_inverse is None:
            return None
        else:
            mended = _mended(now, failed, gap, error * inverse, modulus)
            gap += 1
            if 2 * length <= place:
                length, failed, gap, inverse = place + 1 - length, now, 1, own_inverse
            now = mended
    full = now + [0] * (length + 1 - len(now))
    return tuple([_near_zero(-number, modulus) for number in full[1:length + 1]])


def _mended(now, failed, gap, factor, modulus):
    """A polynomial less another one, taken so many times and moved on by a gap."""
    moved = [0] * gap + failed
    count = max(len(now), len(moved))
    one = now + [0] * (count - len(now))
    other = moved + [0] * (count - len(moved))
    return [(low - factor * high) % modulus for low, high in zip(one, other)]


def _inverse(number, modulus):
    """The number that gives 1 together with a number modulo another one, or None."""
    rest, next_rest = number, modulus
    found, next_found = 1, 0
    while next_rest:
        times = rest // next_rest
        rest, next_rest = next_rest, rest - times * next_rest
        found, next_found = next_found, found - times * next_found
    return found % modulus if rest == 1 else None


def _near_zero(number, modulus):
    """The integer nearest to 0 that is a number modulo another one."""
    rest = number % modulus
    return rest - modulus if 2 * rest > modulus else rest
