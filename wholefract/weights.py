"""What stops for every number: weights, balances, and the one of both that a program has."""

from wholefract.kept import lowest, sum_by, unit_row
from wholefract.programs import PRIMES, is_powers, is_whole
from wholefract.steps import changes_of


def are_weights(program, thing):
    # Weights have the form of powers: ten whole numbers from 0 on.
    if not is_powers(thing):
        return False
    return all([sum_by(thing, changes) < 0 for changes in changes_of(program)])


def is_balance(program, thing):
    if not isinstance(thing, tuple) or len(thing) != len(program):
        return False
    if not all([is_whole(part) and part >= 0 for part in thing]) or max(thing) == 0:
        return False
    return all([sum_by(thing, changes) >= 0 for changes in by_primes(changes_of(program))])


def by_primes(rows):
    return [tuple([changes[place] for changes in rows]) for place in range(len(PRIMES))]


def weight_of(weights, powers):
    return sum_by(weights, powers)


# The simplex method: the greatest sum of a balance's numbers is sought. The table has a column for each fraction's
# number and one for what is over of each prime, a row for each prime, which comes to 0, and last the row of the
# sum. Where the sum can grow it can grow without end, and a balance is found; where it can't, the last row holds
# weights. So there is one of both always.
def weighed(program):
    rows = changes_of(program)
    many = len(rows)
    table = first_table(rows)
    basis = [many + place for place in range(len(PRIMES))]
    unit = 1
    column = first_above(table[-1])
    while column is not None:
        place = leaving(table, basis, column)
        if place is None:
            return ("balance", lowest(endless(table, basis, column, unit)[:many]))
        pivot = table[place][column]
        table = exchanged(table, place, column, unit)
        unit = pivot
        basis[place] = column
        column = first_above(table[-1])
    return ("weights", lowest([-number for number in table[-1][many:]]))


def first_table(rows):
    table = [[-change for change in changes] + list(unit_row(prime)) for prime, changes in zip(PRIMES, by_primes(rows))]
    table.append([1] * len(rows) + [0] * len(PRIMES))
    return table


def first_above(numbers):
    for column, number in enumerate(numbers):
        if number > 0:
            return column
    return None


def leaving(table, basis, column):
    # The first column in, and of those that can go the first one out: so no basis comes again (Bland).
    found = [(taken, place) for place, taken in enumerate(basis) if table[place][column] > 0]
    if len(found) == 0:
        return None
    return min(found)[1]


def exchanged(table, place, column, unit):
    # All numbers of the table are to be read as divided by unit; so they stay whole, and the division is exact.
    used = table[place]
    pivot = used[column]
    others = [[(number * pivot - row[column] * taken) // unit for number, taken in zip(row, used)] for row in table]
    others[place] = used
    return others


def endless(table, basis, column, unit):
    numbers = [0] * len(table[0])
    numbers[column] = unit
    for place, taken in enumerate(basis):
        numbers[taken] = -table[place][column]
    return numbers
