"""Programs and powers, written and read."""

from wholefract.errors import NoText
from wholefract.programs import PRIMES, is_program

FIGURES = "0123456789"
# 10 ** 12, the greatest number that any text here may hold, has thirteen figures.
MOST_FIGURES = 13
MOST_POWER = 1000000


def written(program):
    return " ".join([fraction_written(fraction) for fraction in program])


def fraction_written(fraction):
    top = number_written(fraction[0])
    bottom = number_written(fraction[1])
    return f"{top}/{bottom}"


def number_written(number):
    # Python's own str fails beyond some thousand figures, and powers may be however great.
    block = 10 ** 60
    rest = number
    blocks = []
    while rest >= block:
        blocks.append(str(rest % block).zfill(60))
        rest = rest // block
    blocks.append(str(rest))
    return "".join(reversed(blocks))


def powers_written(powers):
    words = [power_written(prime, power) for prime, power in zip(PRIMES, powers) if power > 0]
    if len(words) == 0:
        return "1"
    return "*".join(words)


def power_written(prime, power):
    often = number_written(power)
    return f"{prime}^{often}"


def read(text):
    if not isinstance(text, str):
        raise NoText("what is no text writes no program")
    program = tuple([pair_read(word, "/") for word in text.split(" ")])
    if not is_program(program):
        raise NoText("the fractions are no program")
    return program


def powers_read(text):
    if not isinstance(text, str):
        raise NoText("what is no text writes no powers")
    powers = (0,) * len(PRIMES)
    if text != "1":
        powers = product_read(text)
    # Primes in another order, twice or beyond 29 are seen by writing the powers again.
    if max(powers) > MOST_POWER or powers_written(powers) != text:
        raise NoText("the text writes no powers")
    return powers


def product_read(text):
    found = {}
    for word in text.split("*"):
        pair = pair_read(word, "^")
        found[pair[0]] = pair[1]
    return tuple([found.get(prime, 0) for prime in PRIMES])


def pair_read(word, sign):
    parts = word.split(sign)
    if len(parts) != 2:
        raise NoText("two numbers with one sign between them are due")
    return (number_read(parts[0]), number_read(parts[1]))


def number_read(text):
    # The length goes first: Python's own int fails at some thousand figures.
    if len(text) < 1 or len(text) > MOST_FIGURES or text[0] == "0":
        raise NoText("a number is due, of few enough figures and no nought ahead")
    if not all([sign in FIGURES for sign in text]):
        raise NoText("numbers are written by the figures 0 to 9 alone")
    return int(text)
