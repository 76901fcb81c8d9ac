"""Powers and the numbers they stand for, fractions and programs."""

from wholefract.errors import NoNumber, TooMany

PRIMES = (2, 3, 5, 7, 11, 13, 17, 19, 23, 29)
MOST_FRACTIONS = 16
MOST_TERM = 1000000000000


def is_whole(thing):
    # Python counts True and False among the ints.
    return isinstance(thing, int) and not isinstance(thing, bool)


def is_powers(thing):
    if not isinstance(thing, tuple) or len(thing) != len(PRIMES):
        return False
    return all([is_whole(part) and part >= 0 for part in thing])


def number_of(powers):
    too_great = 10 ** 60
    number = 1
    for prime, power in zip(PRIMES, powers):
        left = power
        while left > 0:
            number = number * prime
            # Asked at each factor, since the powers may be far too many to multiply out.
            if number >= too_great:
                raise TooMany("the number has more than sixty figures")
            left = left - 1
    return number


def powers_of(number):
    if not is_whole(number) or number < 1 or without_primes(number) != 1:
        raise NoNumber("no whole number from 1 on of the ten primes alone")
    return tuple([how_often(prime, number) for prime in PRIMES])


def how_often(prime, number):
    times = 0
    rest = number
    while rest % prime == 0:
        rest = rest // prime
        times = times + 1
    return times


def without_primes(number):
    rest = number
    for prime in PRIMES:
        while rest % prime == 0:
            rest = rest // prime
    return rest


def is_program(thing):
    if not isinstance(thing, tuple) or len(thing) < 1 or len(thing) > MOST_FRACTIONS:
        return False
    return all([is_fraction(part) for part in thing])


def is_fraction(thing):
    if not isinstance(thing, tuple) or len(thing) != 2:
        return False
    top = thing[0]
    bottom = thing[1]
    if not is_term(top) or not is_term(bottom):
        return False
    # Both are of the ten primes alone, so no other prime can divide them.
    return all([top % prime != 0 or bottom % prime != 0 for prime in PRIMES])


def is_term(thing):
    if not is_whole(thing) or thing < 1 or thing > MOST_TERM:
        return False
    return without_primes(thing) == 1
