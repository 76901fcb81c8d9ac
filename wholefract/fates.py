"""Whether powers rest, go round or stay open, and where two powers meet."""

from wholefract.programs import is_powers, is_whole
from wholefract.steps import changes_of, first_of, moved

MOST_STEPS = 400


def fate(program, powers, most):
    rows = changes_of(program)
    seen = {}
    reached = powers
    for done in range(most + 1):
        if reached in seen:
            return ("round", seen[reached], done - seen[reached])
        number = first_of(rows, reached)
        if number is None:
            return ("rests", done, reached)
        seen[reached] = done
        reached = moved(reached, rows[number], 1)
    return ("open",)


def is_fate(program, powers, thing):
    # The form goes first: by == alone a truth would pass for 0 or 1.
    if not is_rests(thing) and not is_round(thing):
        return False
    return thing == fate(program, powers, MOST_STEPS)


def is_rests(thing):
    return is_three(thing) and thing[0] == "rests" and is_whole(thing[1]) and is_powers(thing[2])


def is_round(thing):
    return is_three(thing) and thing[0] == "round" and is_whole(thing[1]) and is_whole(thing[2])


def is_three(thing):
    return isinstance(thing, tuple) and len(thing) == 3


def meet(program, one, other, most):
    rows = changes_of(program)
    by_other = least_steps(rows, other, most)
    by_one = least_steps(rows, one, most)
    found = [(steps + by_other[reached], steps, reached) for reached, steps in by_one.items() if reached in by_other]
    if len(found) == 0:
        return None
    best = min(found)
    return (best[1], best[0] - best[1], best[2])


def least_steps(rows, powers, most):
    found = {}
    reached = powers
    for done in range(most + 1):
        if reached in found:
            return found
        found[reached] = done
        number = first_of(rows, reached)
        if number is None:
            return found
        reached = moved(reached, rows[number], 1)
    return found
