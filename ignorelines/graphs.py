"""All states that two lists of rules can be in, and the first paths that lead to them."""

from heapq import heappop, heappush

from ignorelines.errors import TooLarge
from ignorelines.machines import Machine, hits_of, is_ignored, next_situation, next_state
from ignorelines.paths import SIGNS

MOST_STATES = 1000
MOST_SITUATIONS = 2000

# The two items of a view.
DIRECTORIES = 0
FILES = 1

# Whether each of two lists ignores a path.
NEITHER = (False, False)
EXACTLY_ONE = ((True, False), (False, True))
ONLY_SECOND = ((False, True),)


def situations(machine):
    """All situations of names, each with its first name, in the order of these names."""
    firsts = {}
    waiting = [(machine.blank, "")]
    done = 0
    while done < len(waiting):
        situation, name = waiting[done]
        done += 1
        for sign in SIGNS:
            reached = next_situation(machine, situation, sign)
            if reached not in firsts:
                firsts[reached] = name + sign
                waiting.append((reached, name + sign))
        if len(firsts) > MOST_SITUATIONS:
            raise TooLarge("more than 2000 situations")
    return firsts


def kinds_of_names(machine):
    """The bits in front of the parts that match a name, for all names, each with its first name."""
    firsts = {}
    for situation, name in situations(machine).items():
        firsts.setdefault(hits_of(machine, situation), name)
    return list(firsts.items())


class Graph:
    """The steps from each state of some rules to the next ones."""

    def __init__(self, rules):
        self.machine = Machine(rules)
        self.kinds = kinds_of_names(self.machine)
        self.known = {}

    def steps(self, state):
        """The states after a state, each with the first name that leads to it."""
        if state not in self.known:
            firsts = {}
            for hits, name in self.kinds:
                firsts.setdefault(state & hits, name)
            self.known[state] = [(next_state(self.machine, state, hits), name) for hits, name in firsts.items()]
        return self.known[state]


class Walk:
    """All states of two lists, and for each of them the first directory that leads to it.

    The lists are given by their views (see ignorelines/machines.py) in one graph.
    """

    def __init__(self, graph, one, other):
        self.graph = graph
        self.one = one
        self.other = other
        self.firsts = first_directories(graph, one, other)

    def first_path(self, wanted):
        """The first path of which the lists say one of the wanted pairs, or None."""
        best = None
        for state, way in self.firsts.items():
            for reached, name in self.graph.steps(state):
                for side, mark in ((DIRECTORIES, "/"), (FILES, "")):
                    if answers(self.graph.machine, reached, self.one[side], self.other[side]) in wanted:
                        best = earlier(best, way + name + mark)
        return best


def first_directories(graph, one, other):
    """The states after directories that neither list ignores, each with the first of them.

    Two directories with the same state may be followed by the same names, and the
    earlier one gives the earlier paths. So the first directory for a state begins
    with the first one for the state before, and a state can be settled as soon as
    it is the earliest one in the queue.
    """
    firsts = {}
    queue = [(0, "", graph.machine.begin)]
    while queue:
        _, way, state = heappop(queue)
        if state in firsts:
            continue
        if len(firsts) == MOST_STATES:
            raise TooLarge("more than 1000 states")
        firsts[state] = way
        for reached, name in graph.steps(state):
            told = answers(graph.machine, reached, one[DIRECTORIES], other[DIRECTORIES])
            if told == NEITHER and reached not in firsts:
                longer = way + name + "/"
                heappush(queue, (len(longer), longer, reached))
    return firsts


def answers(machine, state, one, other):
    """Whether one list and the other one ignore a path alone, by the ends of their rules."""
    return is_ignored(machine, state & one), is_ignored(machine, state & other)


def earlier(one, other):
    """The earlier one of two paths; the first one may be None."""
    if one is None or (len(other), other) < (len(one), one):
        return other
    return one
