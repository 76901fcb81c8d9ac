"""Machines that count, their steps, and the programs that go as they do."""

from wholefract.errors import AtRest, TooMany
from wholefract.programs import PRIMES, is_whole

MOST_ROWS = 1000


def is_machine(thing):
    if not isinstance(thing, tuple) or len(thing) != 2:
        return False
    many = thing[0]
    rows = thing[1]
    if not is_whole(many) or many < 1 or many > len(PRIMES):
        return False
    if not isinstance(rows, tuple) or len(rows) < 1 or len(rows) > MOST_ROWS:
        return False
    return all([is_machine_row(row, many, len(rows)) for row in rows])


def is_machine_row(thing, many, end):
    if not isinstance(thing, tuple) or len(thing) not in (3, 4):
        return False
    word = "add" if len(thing) == 3 else "take"
    if thing[0] != word:
        return False
    if not all([is_whole(part) and part >= 0 for part in thing[1:]]):
        return False
    return thing[1] < many and max(thing[2:]) <= end


def machine_after(machine, stand, many):
    rows = machine[1]
    reached = stand
    for done in range(many):
        if reached[0] == len(rows):
            raise AtRest(done)
        reached = next_stand(rows, reached)
    return reached


def next_stand(rows, stand):
    row = rows[stand[0]]
    values = stand[1]
    counter = row[1]
    if row[0] == "add":
        return (row[2], changed(values, counter, 1))
    if values[counter] > 0:
        return (row[2], changed(values, counter, -1))
    return (row[3], values)


def changed(values, counter, more):
    return values[:counter] + (values[counter] + more,) + values[counter + 1:]


def program_of(machine):
    many = machine[0]
    rows = machine[1]
    if many + 2 * len(rows) > len(PRIMES):
        raise TooMany("more counters and rows than there are primes for")
    fractions = []
    for number in range(len(rows)):
        for second in (False, True):
            fractions.extend(row_fractions(machine, number, second))
    return tuple(fractions)


def row_fractions(machine, number, second):
    row = machine[1][number]
    counter = PRIMES[row[1]]
    here = row_prime(machine, number, second)
    onward = row_prime(machine, row[2], not second)
    if row[0] == "add":
        return [(counter * onward, here)]
    return [(onward, here * counter), (row_prime(machine, row[3], not second), here)]


def row_prime(machine, number, second):
    if number == len(machine[1]):
        return 1
    return PRIMES[row_place(machine, number, second)]


def row_place(machine, number, second):
    place = machine[0] + 2 * number
    return place + 1 if second else place


def stand_powers(machine, stand, second):
    powers = list(stand[1]) + [0] * (len(PRIMES) - machine[0])
    if stand[0] < len(machine[1]):
        powers[row_place(machine, stand[0], second)] = 1
    return tuple(powers)
