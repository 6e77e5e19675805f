"""A slow and simple implementation of DOC.md, written from its words alone.

It takes lists of rules as plain lists of Rule objects, of which it reads the
four properties only. It shares no code with the package.
"""

from itertools import combinations, product

SIGNS = ".abc"


def part_fits(part, name):
    if part == "":
        return name == ""
    if part[0] == "*":
        return any(part_fits(part[1:], name[k:]) for k in range(len(name) + 1))
    return name != "" and part[0] in ("?", name[0]) and part_fits(part[1:], name[1:])


def parts_fit(parts, names):
    if not parts:
        return not names
    if parts[0] == "**":
        return any(parts_fit(parts[1:], names[k:]) for k in range(len(names) + 1))
    return bool(names) and part_fits(parts[0], names[0]) and parts_fit(parts[1:], names[1:])


def names_in(path):
    return path.rstrip("/").split("/")


def matches(rule, path):
    if rule.directories and not path.endswith("/"):
        return False
    parts = rule.pattern.split("/")
    names = names_in(path)
    if rule.anchored:
        return parts_fit(parts, names)
    return any(parts_fit(parts, names[k:]) for k in range(len(names)))


def last_match(rules, path):
    found = [k for k, rule in enumerate(rules) if matches(rule, path)]
    return found[-1] if found else None


def ignored_alone(rules, path):
    last = last_match(rules, path)
    return last is not None and not rules[last].again


def on_the_way(path):
    names = names_in(path)
    return ["/".join(names[:k]) + "/" for k in range(1, len(names))]


def ignored(rules, path):
    return any(ignored_alone(rules, where) for where in [*on_the_way(path), path])


def reason(rules, path):
    for where in on_the_way(path):
        if ignored_alone(rules, where):
            return where, last_match(rules, where)
    return path, last_match(rules, path)


def order(path):
    return len(path), path


def short_paths(length, signs):
    """All paths of at most this length over these signs and the slash, in order."""
    for size in range(1, length + 1):
        for text in product(sorted(signs + "/"), repeat=size):
            path = "".join(text)
            if not path.startswith("/") and "//" not in path:
                yield path


def stage(rule, names):
    parts = rule.pattern.split("/")
    if rule.anchored:
        ends = [names]
    else:
        ends = [names[k:] for k in range(len(names) + 1)]
    return tuple(k for k in range(len(parts) + 1) if any(parts_fit(parts[:k], end) for end in ends))


def state(one, other, names):
    return tuple(stage(rule, names) for rule in one), tuple(stage(rule, names) for rule in other)


def situation(parts, name):
    return tuple(tuple(p for p in range(len(part) + 1) if part_fits(part[:p], name)) for part in parts)


def first_names(rules):
    """A name for each situation, the first one."""
    parts = sorted({part for rule in rules for part in rule.pattern.split("/")} - {"**"})
    seen = {}
    names = list(SIGNS)
    while names:
        new = []
        for name in names:
            told = situation(parts, name)
            if told not in seen:
                seen[told] = name
                new.append(name)
        names = [name + sign for name in new for sign in SIGNS]
    return list(seen.values())


def state_ways(one, other, names):
    """All states, each with the first directory after which the lists are in it."""
    ways = {state(one, other, []): ""}
    waiting = [""]
    while waiting:
        way = waiting.pop()
        for name in names:
            path = way + name + "/"
            if ignored(one, path) or ignored(other, path):
                continue
            reached = state(one, other, names_in(path))
            if reached not in ways or order(path) < order(ways[reached]):
                ways[reached] = path
                waiting.append(path)
    return ways


def first_with(one, other, wanted):
    """The first path for which wanted(ignored by one, ignored by other), or None."""
    names = first_names([*one, *other])
    found = [
        path
        for way in state_ways(one, other, names).values()
        for name in names
        for path in (way + name, way + name + "/")
        if wanted(ignored(one, path), ignored(other, path))
    ]
    return min(found, key=order) if found else None


def first_difference(one, other):
    return first_with(one, other, lambda first, second: first != second)


def first_uncovered(one, other):
    return first_with(one, other, lambda first, second: second and not first)


def states(one, other):
    return list(state_ways(one, other, first_names([*one, *other])))


def are_states_of_agreement(listed, one, other):
    """Whether states are as [6] asks for, tried for each state and each name."""
    names = first_names([*one, *other])
    ways = state_ways(one, other, names)
    if state(one, other, []) not in listed:
        return False
    for told in listed:
        way = ways[told]
        for name in names:
            for path in (way + name, way + name + "/"):
                if ignored(one, path) != ignored(other, path):
                    return False
            if not ignored(one, path) and state(one, other, names_in(path)) not in listed:
                return False
    return True


def all_sets(count):
    return [chosen for size in range(count + 1) for chosen in combinations(range(count), size)]


def part_of(rules, chosen):
    return [rules[k] for k in chosen]


class Sets:
    """All that [7] and [8] say of one list."""

    def __init__(self, rules):
        self.rules = rules
        self.all = all_sets(len(rules))
        self.faithful = [
            chosen for chosen in self.all if first_difference(part_of(rules, chosen), rules) is None
        ]
        self.unfaithful = [chosen for chosen in self.all if chosen not in self.faithful]
        self.least = [
            chosen for chosen in self.faithful if not any(set(other) < set(chosen) for other in self.faithful)
        ]
        self.greatest = [
            chosen for chosen in self.unfaithful if not any(set(other) > set(chosen) for other in self.unfaithful)
        ]
        pairs = [
            (chosen, tuple(k for k in chosen if k != left))
            for chosen in self.all
            for left in sorted(chosen, reverse=True)
        ]
        self.breaches = [pair for pair in pairs if pair[0] in self.faithful and pair[1] in self.unfaithful]
        self.rescues = [pair for pair in pairs if pair[0] in self.unfaithful and pair[1] in self.faithful]

    def refuted(self, chosen, path):
        return ignored(part_of(self.rules, chosen), path) != ignored(self.rules, path)

    def are_doubts(self, doubts, sets):
        return all(any(self.refuted(chosen, path) for path in doubts) for chosen in sets)


def exchanged(rules, k):
    return [*rules[:k], rules[k + 1], rules[k], *rules[k + 2:]]


def free_neighbours(rules):
    return [k for k in range(len(rules) - 1) if first_difference(rules, exchanged(rules, k)) is None]


class SlowEditor:
    """All that [13] says, but for the errors of wrong arguments."""

    def __init__(self, rules):
        self.rules = rules
        self.past = []

    def tried(self, rules):
        """Takes the step to other rules, and returns None, or the first path that is against it."""
        path = first_difference(self.rules, rules)
        if path is None:
            self.past.append(self.rules)
            self.rules = rules
        return path

    def without(self, k):
        return self.rules[:k] + self.rules[k + 1:]

    def needless(self):
        many = len(self.rules)
        return [k for k in range(many) if many > 1 and first_difference(self.rules, self.without(k)) is None]
