"""The bench: powers kept by names, put, run and dropped, and each deed undone."""

from wholefract.errors import AtRest, NoDeed, NoName, NoPowers, NoProgram, TooMany
from wholefract.programs import is_powers, is_program
from wholefract.steps import leap
from wholefract.texts import MOST_POWER

LETTERS = "abcdefghijklmnopqrstuvwxyz"
MOST_LETTERS = 8
MOST_NAMES = 12


class Bench:
    def __init__(self, program):
        if not is_program(program):
            raise NoProgram("a bench is made for a program")
        self.program = program
        # By each name a tuple: the powers, and how many steps they have gone.
        self.held = {}
        # Each deed is a name and what was held by it ahead of the deed, None where nothing was.
        self.deeds = []

    def put(self, name, powers):
        if not is_name(name):
            raise NoName("a name has one to eight small letters")
        if not is_powers(powers) or max(powers) > MOST_POWER:
            raise NoPowers("what is put is powers, none of them too great")
        if name not in self.held and len(self.held) == MOST_NAMES:
            raise TooMany("more names than a bench keeps")
        self.done(name, (powers, 0))

    def run(self, name, many):
        begin = self.held_by(name)
        end = gone_on(self.program, begin[0], many)
        self.done(name, (end[1], begin[1] + end[0]))
        return end[0]

    def drop(self, name):
        self.held_by(name)
        self.done(name, None)

    def undo(self):
        if len(self.deeds) == 0:
            raise NoDeed("no deed is left")
        deed = self.deeds.pop()
        self.hold(deed[0], deed[1])

    def names(self):
        return sorted(self.held)

    def powers(self, name):
        return self.held_by(name)[0]

    def gone(self, name):
        return self.held_by(name)[1]

    def held_by(self, name):
        # A list or dict can't even be looked for among the names.
        if not isinstance(name, str) or name not in self.held:
            raise NoName("nothing is kept by this name")
        return self.held[name]

    def done(self, name, what):
        self.deeds.append((name, self.held.get(name)))
        self.hold(name, what)

    def hold(self, name, what):
        if what is None:
            self.held.pop(name)
        else:
            self.held[name] = what


def is_name(thing):
    if not isinstance(thing, str) or len(thing) < 1 or len(thing) > MOST_LETTERS:
        return False
    return all([sign in LETTERS for sign in thing])


def gone_on(program, powers, many):
    try:
        # Below 0 no step is gone.
        return (max(many, 0), leap(program, powers, many))
    except AtRest as rest:
        return (rest.steps, leap(program, powers, rest.steps))
