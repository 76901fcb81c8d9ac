"""Powers and programs by other primes, the primes of a program, and two programs joined."""

from wholefract.errors import NoOrder, Shared, TooMany
from wholefract.programs import MOST_FRACTIONS, MOST_TERM, PRIMES, is_whole, number_of, powers_of


def is_order(thing):
    if not isinstance(thing, tuple) or len(thing) != len(PRIMES):
        return False
    # Only whole numbers can be put into an order, and by == alone a truth would pass for 0 or 1.
    if not all([is_whole(part) for part in thing]):
        return False
    return sorted(thing) == list(range(len(PRIMES)))


def powers_renamed(powers, order):
    if not is_order(order):
        raise NoOrder("no tuple in which each number from 0 to 9 stands once")
    return tuple([powers[place] for place in order])


def renamed(program, order):
    return tuple([(term_renamed(top, order), term_renamed(bottom, order)) for top, bottom in program])


def term_renamed(term, order):
    number = number_of(powers_renamed(powers_of(term), order))
    if number > MOST_TERM:
        raise TooMany("a top or bottom would be too great")
    return number


def primes_in(program):
    return tuple([prime for prime in PRIMES if goes_in(prime, program)])


def goes_in(prime, program):
    return any([top % prime == 0 or bottom % prime == 0 for top, bottom in program])


def joined(one, other):
    if any([goes_in(prime, other) for prime in primes_in(one)]):
        raise Shared("the programs have a prime in common")
    if len(one) + len(other) > MOST_FRACTIONS:
        raise TooMany("more fractions than a program has")
    return one + other
