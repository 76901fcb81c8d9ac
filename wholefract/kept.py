"""What no step changes: kept rows, the base they come of, and what parts two powers."""

from wholefract.programs import PRIMES, is_whole
from wholefract.steps import changes_of


def is_kept(program, thing):
    if not is_row(thing):
        return False
    return all([sum_by(thing, changes) == 0 for changes in changes_of(program)])


def is_row(thing):
    if not isinstance(thing, tuple) or len(thing) != len(PRIMES):
        return False
    return all([is_whole(part) for part in thing])


def sum_by(row, powers):
    return sum([number * power for number, power in zip(row, powers)])


def base(program):
    rows = [unit_row(prime) for prime in PRIMES]
    for changes in changes_of(program):
        rows = kept_of(rows, changes)
    return rows


def unit_row(prime):
    return tuple([1 if other == prime else 0 for other in PRIMES])


def kept_of(rows, changes):
    sums = [sum_by(row, changes) for row in rows]
    unkept = [place for place, total in enumerate(sums) if total != 0]
    if len(unkept) == 0:
        return rows
    # The last row goes into those ahead of it, so that their first numbers stay where they are and
    # what was the base of the fractions up to here becomes that of one more.
    last = unkept[-1]
    return [evened(row, total, rows[last], sums[last]) for row, total in zip(rows, sums) if row != rows[last]]


def evened(row, total, other, other_total):
    return lowest([other_total * number - total * taken for number, taken in zip(row, other)])


def lowest(numbers):
    shared = 0
    for number in numbers:
        shared = common_divisor(shared, abs(number))
    if [number for number in numbers if number != 0][0] < 0:
        shared = -shared
    return tuple([number // shared for number in numbers])


def common_divisor(one, other):
    while other != 0:
        rest = one % other
        one = other
        other = rest
    return one


def parted_by(program, one, other):
    for row in base(program):
        if sum_by(row, one) != sum_by(row, other):
            return row
    return None
