"""Programs into machines: a counter for each prime, and rows that do one step and come back to row 0."""

from wholefract.errors import TooMany
from wholefract.programs import PRIMES, powers_of

MOST_FACTORS = 300


def machine_of(program):
    parts = [(counters_of(bottom), counters_of(top)) for top, bottom in program]
    if sum([len(wanted) + len(given) for wanted, given in parts]) > MOST_FACTORS:
        raise TooMany("more prime factors than a machine is made for")
    rows = []
    for wanted, given in parts:
        rows.extend(fraction_rows(len(rows), wanted, given))
    return (len(PRIMES), tuple(rows))


def counters_of(number):
    counters = []
    for counter, often in enumerate(powers_of(number)):
        counters.extend([counter] * often)
    return counters


def fraction_rows(begin, wanted, given):
    if len(wanted) + len(given) == 0:
        return still_rows(begin)
    done = begin + len(wanted) + len(given)
    # What was taken when one lacks is given back, the last first; behind these rows lies the next fraction, or the end.
    back = list(reversed(wanted[:-1]))
    behind = done + len(back)
    rows = []
    for taken, counter in enumerate(wanted):
        rows.append(("take", counter, onward(begin + taken, done), behind - taken))
    for number, counter in enumerate(given, start=begin + len(wanted)):
        rows.append(("add", counter, onward(number, done)))
    for number, counter in enumerate(back, start=done):
        rows.append(("add", counter, number + 1))
    return rows


def still_rows(begin):
    # A fraction (1, 1) changes nothing, but row 0 must be left and come to again.
    return [("add", 0, begin + 1), ("take", 0, 0, 0)]


def onward(number, done):
    return 0 if number + 1 == done else number + 1
