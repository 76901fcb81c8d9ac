"""The desk: rows of words are said to it, and it answers by words."""

from wholefract.before import before
from wholefract.bench import Bench
from wholefract.errors import NoProgram, NoRow, NoText
from wholefract.fates import MOST_STEPS, fate
from wholefract.texts import FIGURES, number_written, powers_read, powers_written, read

MOST_RUN = 1000000000000000000
MOST_COUNT_FIGURES = 19
# What each row has behind its first word; a program's row alone has as many words as it likes.
PARTS = {
    "put": ("name", "powers"),
    "drop": ("name",),
    "undo": (),
    "run": ("name", "run count"),
    "show": ("name",),
    "gone": ("name",),
    "names": (),
    "fate": ("name", "fate count"),
    "ahead": ("name",),
}


class Desk:
    def __init__(self):
        self.bench = None

    def say(self, row):
        words = words_of(row)
        if words[0] == "program":
            self.bench = Bench(program_read(words[1:]))
            return "ok"
        # Read to the end first: what is no row is no row ahead of a program, too.
        parts = parts_read(words)
        if self.bench is None:
            raise NoProgram("no program has been said yet")
        return answer(self.bench, words[0], parts)


def words_of(row):
    if not isinstance(row, str):
        raise NoRow("what is no text is no row")
    words = row.split(" ")
    if "" in words:
        raise NoRow("words are parted by single blanks")
    return words


def program_read(words):
    try:
        return read(" ".join(words))
    except NoText:
        raise NoRow("the words write no program")


def parts_read(words):
    kinds = PARTS.get(words[0])
    if kinds is None or len(words) != len(kinds) + 1:
        raise NoRow("no row has these words")
    return [part_read(kind, word) for kind, word in zip(kinds, words[1:])]


def part_read(kind, word):
    if kind == "powers":
        return put_powers_read(word)
    if kind == "run count":
        return count_read(word, MOST_RUN)
    if kind == "fate count":
        return count_read(word, MOST_STEPS)
    return word


def put_powers_read(word):
    try:
        return powers_read(word)
    except NoText:
        raise NoRow("the word writes no powers")


def count_read(word, most):
    if len(word) > MOST_COUNT_FIGURES or not all([sign in FIGURES for sign in word]):
        raise NoRow("a count is written by one to nineteen figures")
    if word[0] == "0" and word != "0":
        raise NoRow("a count has no nought ahead")
    number = int(word)
    if number > most:
        raise NoRow("the count is too great")
    return number


def answer(bench, word, parts):
    if word in ("put", "drop", "undo"):
        do_deed(bench, word, parts)
        return "ok"
    if word == "names":
        return listed(bench.names())
    name = parts[0]
    if word == "run":
        return number_written(bench.run(name, parts[1]))
    if word == "gone":
        return number_written(bench.gone(name))
    powers = bench.powers(name)
    if word == "show":
        return powers_written(powers)
    if word == "fate":
        return fate_written(fate(bench.program, powers, parts[1]))
    return listed([powers_written(found) for found in before(bench.program, powers)])


def do_deed(bench, word, parts):
    if word == "put":
        bench.put(parts[0], parts[1])
    elif word == "drop":
        bench.drop(parts[0])
    else:
        bench.undo()


def listed(words):
    return " ".join(words) if len(words) > 0 else "none"


def fate_written(told):
    if told[0] == "open":
        return "open"
    steps = number_written(told[1])
    if told[0] == "rests":
        powers = powers_written(told[2])
        return f"rests {steps} {powers}"
    length = number_written(told[2])
    return f"round {steps} {length}"
