"""Rows for the tests, and answers found without the program."""

import itertools
import random

LARGEST = 60
MIDDLING = 20


def shrinks_to_nothing(text):
    while "()" in text:
        text = text.replace("()", "")
    return text == ""


def all_whole_rows(size):
    texts = ["".join(signs) for signs in itertools.product("()", repeat=2 * size)]
    return [text for text in texts if shrinks_to_nothing(text)]


def shuffled_row(source, opening, shutting):
    signs = ["("] * opening + [")"] * shutting
    source.shuffle(signs)
    return "".join(signs)


def whole_row(source, size, lean):
    """A whole row; the greater lean, from 0 to 1, the deeper it tends to be."""
    text = ""
    level = 0
    opening = size
    while len(text) < 2 * size:
        if level == 0 or (opening and source.random() < lean):
            text, level, opening = text + "(", level + 1, opening - 1
        else:
            text, level = text + ")", level - 1
    return text


def sample_rows():
    """Whole rows of every size from 0 to 60: the deepest, the flattest, and some between."""
    source = random.Random(20)
    rows = []
    for size in range(LARGEST + 1):
        rows.append("(" * size + ")" * size)
        rows.append("()" * size)
        rows.extend(whole_row(source, size, lean) for lean in (0.3, 0.5, 0.7, 0.9))
    return rows


def middling_rows():
    """Whole rows of every size from 0 to 20."""
    source = random.Random(21)
    rows = [row for row in sample_rows() if len(row) <= 2 * MIDDLING]
    return rows + [whole_row(source, size, lean) for size in range(3, MIDDLING + 1) for lean in (0.4, 0.6, 0.8)]


def spoilt(row):
    """All texts that come of a row when one sign is left out, doubled, put in, or another in its place."""
    for place, sign in enumerate(row):
        ahead, behind = row[:place], row[place + 1:]
        yield ahead + behind
        yield ahead + sign + sign + behind
        for other in "() [x~":
            if other != sign:
                yield ahead + other + behind
    for place in range(len(row) + 1):
        for other in "() [x~":
            yield row[:place] + other + row[place:]


def long_texts():
    """Texts of more than 120 signs, some of which would be whole if they were shorter."""
    texts = []
    for size in (61, 62, 70, 200):
        texts += ["(" * size + ")" * size, "()" * size, "(" + "()" * (size - 1) + ")"]
        texts += ["(" * size * 2, ")" * size * 2, " " * size * 2]
    return texts + ["()" * 60 + "(", "()" * 60 + ")", "()" * 60 + " "]


def unwhole_texts():
    return [
        "(", ")", ")(", "())(", "(()", "())", "))((", "((", "))", " ", "x", "()x", "x()", "( )", " ()", "() ",
        "[]", "{}", "<>", "None", "True", "0", "~", "(()]", "([)]", "()\\", "((((((((", "())(()",
    ]


def nested(thing, deep, wrap):
    for turn in range(deep):
        thing = wrap(thing)
    return thing


def doubled_things():
    """Things thirty deep that no walk through all their parts comes to the end of."""
    return [nested(core, 30, lambda one: wrap((one, one))) for core in (0, (), "()") for wrap in (list, tuple)]


def other_things():
    """Things that are no texts, up to thirty deep."""
    things = [0, 1, -1, 2, 120, 10 ** 40, -(10 ** 40), True, False, None]
    wraps = [lambda one: [one], lambda one: (one,), lambda one: [one, "()"], lambda one: ((), one, [one])]
    held = []
    for core in things + ["", "()", "(", [], ()]:
        held += [nested(core, deep, wrap) for wrap in wraps[:3] for deep in (1, 2, 30)]
        held += [nested(core, deep, wraps[3]) for deep in (1, 5)]
    return things + [[], (), ["(", ")"], ("(", ")"), [[], []], ((), ())] + held
