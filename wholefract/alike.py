"""What holds for all powers at once: fractions that are never used, and programs that do the same everywhere."""

from wholefract.programs import PRIMES, powers_of
from wholefract.steps import changes_of, first_of


def idle(program):
    return [number for number in range(len(program)) if is_idle(program, number)]


def is_idle(program, number):
    # A bottom is the least that its fraction fits: one ahead that fits there fits wherever this one does.
    bottom = program[number][1]
    return any([bottom % ahead[1] == 0 for ahead in program[:number]])


def without_idle(program):
    return tuple([fraction for number, fraction in enumerate(program) if not is_idle(program, number)])


def unlike_at(one, other):
    one_rows = changes_of(one)
    other_rows = changes_of(other)
    for powers in least_places(one, other):
        if used_at(one_rows, powers) != used_at(other_rows, powers):
            return powers
    return None


# Where two fractions are the first that fit, one of each program, they are so too at the least powers that both fit:
# with less of a prime no fraction ahead comes to fit. The same goes for a fraction and powers that rest by the other
# program. So, if programs are unlike anywhere, they are unlike at one of these places.
def least_places(one, other):
    places = []
    for wanted in wants_of(one):
        for other_wanted in wants_of(other):
            places.append(tuple([max(power, more) for power, more in zip(wanted, other_wanted)]))
    return places


def wants_of(program):
    # The noughts stand for the program being at rest, for which nothing is wanted.
    return [powers_of(bottom) for top, bottom in program] + [(0,) * len(PRIMES)]


def used_at(rows, powers):
    # Fractions have no common divisor, so two that change the primes alike are the same.
    number = first_of(rows, powers)
    return None if number is None else rows[number]
