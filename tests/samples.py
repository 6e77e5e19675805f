"""Rules, lists and wrong values for the tests; the same ones in each run."""

from random import Random

from ignorelines.lists import Lines
from ignorelines.rules import Rule

PATTERNS = [
    "a", "b", "*", "?", "**", ".", "a*", "*a", "*b", "?b", "a?", "ab", "*a*", "a*b",
    "a/b", "a/*", "*/a", "*/*", "?/b", "a*/b", "a/**", "**/a", "**/b*", "a/**/b", "*/**/a",
    "**/a/**", "**/**", "a/a", "*/a/*", "a/*/b", "b/?/*", "**/*/a", "a/**/*", "c/c/c/c",
]

SMALL = ["a", "b", "*", "a*", "?", "a/b", "a/*", "*/b", "**", "a/**", "**/a", "b/**/a"]

NOT_LINES = [
    None, True, False, 0, 1, -1, "", "a", "a\n", b"a", [], (), ["a"], [Rule("a")], (Rule("a"),), {}, {0: Rule("a")},
    Rule("a"), object(), Lines, Rule, Ellipsis, [Lines([Rule("a")])], (Lines([Rule("a")]),), iter([Rule("a")]),
    {1, 2}, frozenset(), range(3), [[]], 10 ** 30,
]

NOT_RULES = [
    None, True, False, 0, 1, "", "a", "!a/", b"a", [], [Rule("a")], (Rule("a"),), {}, {"a"}, object(), Rule, Lines,
    Lines([Rule("a")]), ("a", False, False, False), 10 ** 30,
]

# No indices of any list, whatever its length.
NOT_INDICES = [
    -1, -2, 7, 8, 100, 10 ** 30, -(10 ** 30), True, False, None, "", "0", "a", b"0", [], [0], (), (0,), {}, {0: 0}, {0},
    object(), slice(0, 1), Rule("a"), int, range(1),
]

NOT_PATHS = [
    "", "/", "//", "/a", "a//", "a//b", "a/b//", "A", "a b", " ", "a\n", "\n", "d", "a/d", "a*", "?", "**", "a/-",
    "a\\b", "!a", "\u0430", "a/b/c/d", "a\x00", None, True, False, 0, 1, b"a", [], ["a"], ("a",), {}, {"a": 1}, object(),
    {"a"}, Rule("a"),
]


def rule_from(random, patterns):
    return Rule(
        random.choice(patterns),
        again=random.random() < 0.4,
        directories=random.random() < 0.3,
        anchored=random.random() < 0.35,
    )


def lines_from(random, size, patterns):
    return Lines([rule_from(random, patterns) for _ in range(size)])


def some_lines(seed, number, sizes, patterns):
    """Lists of rules of all sorts."""
    random = Random(seed)
    return [lines_from(random, random.choice(sizes), patterns) for _ in range(number)]


def changed(random, lines, patterns):
    """A list that is the same one but for a rule left out, repeated, exchanged or replaced."""
    rules = list(lines)
    at = random.randrange(len(rules))
    way = random.randrange(5)
    if way == 0 and len(rules) > 1:
        del rules[at]
    elif way == 1:
        rules.insert(random.randrange(len(rules) + 1), rules[at])
    elif way == 2 and at + 1 < len(rules):
        rules[at], rules[at + 1] = rules[at + 1], rules[at]
    elif way == 3:
        rules[at] = rule_from(random, patterns)
    return Lines(rules)


def some_pairs(seed, number, patterns, sizes=(1, 2, 3, 4)):
    """Pairs of lists: changed ones, and unrelated ones."""
    random = Random(seed)
    found = []
    for k in range(number):
        lines = lines_from(random, random.choice(sizes), patterns)
        if k % 4:
            found.append((lines, changed(random, lines, patterns)))
        else:
            found.append((lines, lines_from(random, random.choice(sizes), patterns)))
    return found


# 9 sorts of names besides all others, each remembered for three names: 10 ** 3 states.
MANY_STATES = (
    Lines.of("!a/*/*", "!b/*/*", "!c/*/*", "!./*/*", "!aa/*/*"),
    Lines.of("!ab/*/*", "!ac/*/*", "!a./*/*", "!ba/*/*"),
)
# A rule that is anchored tells the beginning from all other states.
ONE_STATE_TOO_MANY = (MANY_STATES[0], MANY_STATES[1] + Rule.of("!/**"))

# The same for one list: 4 marks of a name, each remembered for three names.
TOO_MANY_STATES = Lines.of("!*a/*/*", "!b*/*/*", "!*c*/*/*", "!*.*/*/*")

# 1024 (which of the last ten signs are an a), + 510 (of names of up to 8 signs), and
# + 255 + 127 + 63 + 15 + 3 + 3 for the beginnings of such names.
MANY_SITUATIONS = (
    Lines.of("*a?????????", "????????", "b???????", "c??????", "bb?????", "cb???"),
    Lines.of("bc?", "cc?"),
)
ONE_SITUATION_TOO_MANY = (MANY_SITUATIONS[0], MANY_SITUATIONS[1] + Rule.of("ab"))
TOO_MANY_SITUATIONS = Lines.of("*a??????????", "*b???")

# Which of the last eleven signs are an a.
TOO_LARGE_RULE = Rule.of("*a??????????")

TOO_LARGE_LISTS = [TOO_MANY_STATES, TOO_MANY_SITUATIONS]
TOO_LARGE_PAIRS = [
    ONE_STATE_TOO_MANY,
    ONE_SITUATION_TOO_MANY,
    (TOO_MANY_STATES, TOO_MANY_STATES),
    (TOO_MANY_SITUATIONS, TOO_MANY_SITUATIONS),
    # These differ at once.
    (TOO_MANY_STATES, Lines.of("/a")),
    (Lines.of("/.") + TOO_MANY_STATES, Lines.of("!a")),
    (TOO_MANY_SITUATIONS, Lines.of("a")),
    (Lines.of("a"), TOO_MANY_SITUATIONS),
]
