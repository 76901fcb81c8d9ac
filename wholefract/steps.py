"""Steps one by one, stretches of steps by one fraction, and leaps over many stretches."""

from wholefract.errors import AtRest, TooMany
from wholefract.programs import powers_of

MOST_STRETCHES = 2000


def changes_of(program):
    return [fraction_changes(fraction) for fraction in program]


def fraction_changes(fraction):
    tops = powers_of(fraction[0])
    bottoms = powers_of(fraction[1])
    return tuple([top - bottom for top, bottom in zip(tops, bottoms)])


def fits(changes, powers):
    # No prime goes into both top and bottom, so the changes below 0 are just what the bottom wants.
    for change, power in zip(changes, powers):
        if power + change < 0:
            return False
    return True


def first_of(rows, powers):
    for number, changes in enumerate(rows):
        if fits(changes, powers):
            return number
    return None


def moved(powers, changes, many):
    return tuple([power + many * change for power, change in zip(powers, changes)])


def first_fit(program, powers):
    return first_of(changes_of(program), powers)


def step(program, powers):
    return after(program, powers, 1)


def after(program, powers, many):
    rows = changes_of(program)
    reached = powers
    for done in range(many):
        number = first_of(rows, reached)
        if number is None:
            raise AtRest(done)
        reached = moved(reached, rows[number], 1)
    return reached


def trail(program, powers, many):
    rows = changes_of(program)
    reached = powers
    used = []
    while len(used) < many:
        number = first_of(rows, reached)
        if number is None:
            return used
        used.append(number)
        reached = moved(reached, rows[number], 1)
    return used


def stretch(program, powers):
    rows = changes_of(program)
    number = first_of(rows, powers)
    if number is None:
        raise AtRest(0)
    many = stretch_steps(rows, powers, number)
    if many is None:
        return (number, None, None)
    return (number, many, moved(powers, rows[number], many))


def stretch_steps(rows, powers, number):
    used = rows[number]
    ends = [steps_to_lack(powers, used)] + [steps_to_fit(powers, used, ahead) for ahead in rows[:number]]
    return min([end for end in ends if end is not None], default=None)


def steps_to_lack(powers, used):
    return min([power // -change for power, change in zip(powers, used) if change < 0], default=None)


def steps_to_fit(powers, used, ahead):
    many = 0
    for power, change, change_ahead in zip(powers, used, ahead):
        lacking = -change_ahead - power
        if lacking > 0:
            if change <= 0:
                return None
            many = max(many, (lacking + change - 1) // change)
    # What the steps take away only grows less: if it is too little by now, it is so ever after.
    if fits(ahead, moved(powers, used, many)):
        return many
    return None


def leap(program, powers, many):
    rows = changes_of(program)
    reached = powers
    done = 0
    stretches = 0
    while done < many:
        number = first_of(rows, reached)
        if number is None:
            raise AtRest(done)
        if stretches == MOST_STRETCHES:
            raise TooMany("more stretches than a leap goes")
        steps = stretch_steps(rows, reached, number)
        if steps is None or steps > many - done:
            steps = many - done
        reached = moved(reached, rows[number], steps)
        done = done + steps
        stretches = stretches + 1
    return reached
