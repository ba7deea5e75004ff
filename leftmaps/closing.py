"""Known turns as bits of integers, and how the rules close them."""

from leftmaps.places import rules, threes
from leftmaps.turns import barred_turns, in_any_order


class Closing:
    """A bit for each turn of some places, and the turns that each rule bars, as sums of their bits.

    Known turns are told by the sum of the bits of all turns that are known to be so, empty ones by None.
    """

    def __init__(self, places):
        self.lots = threes(places)
        self.bits = in_any_order({three: (1 << 2 * at, 2 << 2 * at) for at, three in enumerate(self.lots)})
        self.barred = [sum([self.bits[turn] for turn in barred_turns(name)]) for name in rules(places)]

    def bits_of(self, known):
        """The bits of a dict of known turns."""
        return sum([self.bits[three] if known[three] else opposite(self.bits[three]) for three in known])

    def known_by(self, bits):
        """The dict of the known turns that have these bits."""
        lots = [three for three in self.lots if bits & (self.bits[three] | opposite(self.bits[three]))]
        return {three: bits & self.bits[three] != 0 for three in lots}

    def closed_bits(self, bits):
        """The known turns closed, None if they get empty."""
        ahead = None
        while bits != ahead:
            ahead = bits
            for turns in self.barred:
                rest = turns & ~bits
                if rest == 0:
                    return None
                if rest & (rest - 1) == 0:
                    bits = bits | opposite(rest)
        return bits

    def with_turn(self, bits, three, turn):
        """The known turns with that of the three, closed; None if they are empty."""
        further = self.bits_of({three: turn})
        if bits is None or bits & opposite(further):
            return None
        return bits if bits & further else self.closed_bits(bits | further)


def opposite(bit):
    """The bit of the same three taken the other way."""
    # The bit for True stands below the one for False, and has an even number.
    return bit << 1 if bit.bit_length() & 1 else bit >> 1
