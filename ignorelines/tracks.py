"""Rows of symbols that are read all at once.

A part of a pattern is read sign by sign, a pattern is read name by name. Both
are rows of symbols, one of which (the star) stands for any number of things,
and each other one for one thing. What the first symbols of the rows match so
far is kept in one number: each row has one bit for each number of its symbols.
"""


class Track:
    """The bits for some rows of symbols, and what happens at each of them."""

    def __init__(self, rows, star):
        # Only local values are changed here, because operators create tracks, too.
        starts = []
        ends = []
        places = {}
        skip = stay = 0
        bit = 1
        for row in rows:
            starts.append(bit)
            for symbol in row:
                if symbol == star:
                    skip = skip | bit
                    stay = stay | (bit << 1)
                else:
                    places[symbol] = places.get(symbol, 0) | bit
                bit = bit << 1
            ends.append(bit)
            bit = bit << 1
        self.starts = starts
        self.ends = ends
        self.places = places
        self.skip = skip
        self.stay = stay


def closed(track, bits):
    """The bits, and those that are reached from them because a star may stand for nothing."""
    grown = bits | ((bits & track.skip) << 1)
    while grown != bits:
        bits = grown
        grown = bits | ((bits & track.skip) << 1)
    return bits


def moved(track, bits, hits, fresh):
    """The bits after one more thing, which is matched by the symbols behind the bits of `hits`.

    `fresh` are the bits that are there again, whatever came before.
    """
    return closed(track, ((bits & hits) << 1) | (bits & track.stay) | fresh)


def places_of(bits):
    """The ascending tuple of the places of the bits that are set in a number."""
    return tuple([k for k in range(bits.bit_length()) if bits & (1 << k)])
