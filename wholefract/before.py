"""The powers ahead of powers: those that become them."""

from wholefract.steps import changes_of, first_of, moved


def before(program, powers):
    return sorted(ahead_by(changes_of(program), powers))


def ahead_by(rows, powers):
    found = []
    for number, changes in enumerate(rows):
        ahead = moved(powers, changes, -1)
        # Powers have one first fraction that fits, so none are found by two fractions.
        if min(ahead) >= 0 and first_of(rows, ahead) == number:
            found.append(ahead)
    return found


def many_before(program, powers, many):
    rows = changes_of(program)
    found = [powers]
    for back in range(many):
        further = []
        # Powers become one thing by a step, so none are ahead of two.
        for reached in found:
            further.extend(ahead_by(rows, reached))
        found = further
    return len(found)
