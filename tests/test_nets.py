"""Points [14], [17] and the interface of leftmaps/nets.py."""

import functools
import itertools
import unittest
from unittest import mock

from leftmaps.errors import BadNet, BadPaper
from leftmaps.looks import border
from leftmaps.maps import Map, from_spots
from leftmaps.nets import all_nets, check_exchanges, exchanged, exchanges, fewest_exchanges, is_net
from tests.case import Case
from tests.plain import all_placed, distances, exchanges_at, nets_at, placed, ways_of
from tests.samples import WORDS, wrong_values

AB, AC, AD, BC, BD, CD = ways_of(("a", "b", "c", "d"))

# Four places, each one next to the other at the border: there are two nets.
SQUARE = from_spots([("a", 0, 0), ("b", 1, 0), ("c", 1, 1), ("d", 0, 1)])
ONE, OTHER = (AB, AC, AD, BC, CD), (AB, AD, BC, BD, CD)
THERE, BACK = (AC, BD), (BD, AC)


@functools.cache
def placed_nets():
    """Every map of 3, 4 and 5 places, beside all its nets by plain sums."""
    return [(chart, nets_at(at)) for chart, at in all_placed()]


def near_nets(places, net):
    """Things that are nearly a net: a way less, a way more, out of order, twice, none, of another kind."""
    more = [tuple(sorted((*net, way))) for way in ways_of(places) if way not in net]
    less = [net[:n] + net[n + 1:] for n in range(len(net))]
    swaps = [(*net[:n], net[n + 1], net[n], *net[n + 2:]) for n in range(len(net) - 1)]
    twice = [net[:n + 1] + net[n:] for n in range(len(net))]
    none = [(("a", "a"), *net), (*net, ("z",)), (*net, ("x", "y")), (*net, "ab"), (*net, None), (*net, ())]
    first = net[0]
    for way in (first[::-1], list(first), (*first, first[1]), ([first[0]], first[1]), (first[0], {}), (mock.ANY,) * 2):
        none.append((way, *net[1:]))
    return more + less + swaps + twice + none + [net[::-1], list(net), set(net), dict(net), (net,), mock.ANY]


class AllNetsTest(Case):

    def test_every_map_against_all_lots_of_ways(self):
        for chart, nets in placed_nets():
            self.assertEqual(all_nets(chart), nets)
            self.assertEqual(all_nets(chart=chart), nets)

    def test_how_many_ways_each_net_has(self):
        for chart, _ in all_placed():
            many = 3 * len(chart) - 3 - len(border(chart))
            self.assertEqual({len(net) for net in all_nets(chart)}, {many})

    def test_how_many_nets_there_are(self):
        self.assertEqual({len(all_nets(chart)) for chart, _ in placed(3)}, {1})
        self.assertEqual({len(all_nets(chart)) for chart, _ in placed(4)}, {1, 2})
        self.assertEqual({len(all_nets(chart)) for chart, _ in placed(5)}, {2, 3, 5})

    def test_written_out(self):
        self.assertEqual(all_nets(Map(("a", "b", "c"), [False])), ((AB, AC, BC),))
        self.assertEqual(all_nets(SQUARE), (ONE, OTHER))
        self.assertEqual(all_nets(SQUARE.mirrored()), (ONE, OTHER))


class IsNetTest(Case):

    def test_every_lot_of_ways_of_four_places(self):
        for chart, at in placed(4):
            ways = ways_of(chart.places)
            for many in range(len(ways) + 1):
                for lot in itertools.combinations(ways, many):
                    self.assertIs(is_net(chart, lot), lot in nets_at(at))

    def test_nets_and_what_is_near_them(self):
        for chart, nets in placed_nets():
            for net in nets:
                self.assertIs(is_net(chart, net), True)
                self.assertIs(is_net(thing=net, chart=chart), True)
                for thing in near_nets(chart.places, net):
                    self.assertIs(is_net(chart, thing), False)

    def test_nets_of_other_maps(self):
        for (chart, nets), (_, others) in itertools.product(placed_nets()[:40], repeat=2):
            for net in others:
                self.assertIs(is_net(chart, net), net in nets)

    def test_other_values(self):
        chart = placed(5)[0][0]
        for value in [*wrong_values(), (), ((),), chart, ("ant", "bee"), (("ant", "bee"),) * 3000]:
            self.assertIs(is_net(chart, value), False)


class ExchangesTest(Case):

    def test_each_net_both_ways(self):
        for chart, nets in placed_nets():
            for net in nets:
                plain = exchanges_at(nets, net)
                self.assertEqual(exchanges(chart, net), tuple(sorted(plain)))
                self.assertEqual(exchanges(net=net, chart=chart), tuple(sorted(plain)))
                for pair, behind in plain.items():
                    self.assertEqual(exchanged(chart, net, pair), behind)
                    self.assertEqual(exchanged(chart, behind, pair[::-1]), net)
                    self.assertEqual(exchanged(pair=pair, net=net, chart=chart), behind)

    def test_written_out(self):
        self.assertEqual(exchanges(SQUARE, ONE), (THERE,))
        self.assertEqual(exchanges(SQUARE, OTHER), (BACK,))
        self.assertEqual(exchanged(SQUARE, ONE, THERE), OTHER)
        self.assertEqual(exchanges(Map(("a", "b", "c"), [True]), (AB, AC, BC)), ())

    def test_all_other_pairs_of_ways_are_no_exchanges(self):
        for chart, nets in placed_nets():
            ways = ways_of(chart.places)
            for pair in itertools.product(ways, repeat=2):
                if pair not in exchanges(chart, nets[0]):
                    self.assertEqual(self.refused(BadPaper, exchanged, chart, nets[0], pair).place, "exchange")

    def test_things_that_are_no_exchange(self):
        near = [
            BACK, list(THERE), (AC,), (AC, BD, BD), (AC, BD, AC), (AC, list(BD)), (("c", "a"), BD), (AC, ("d", "b")),
            (AC, AC), (BD, BD), (AB, CD), (AC, "bd"), (AC, None), (THERE,), (THERE, THERE), {AC: BD}, {AC, BD}, "acbd",
            (AC, (["b"], "d")), (("a", {}), BD), mock.ANY, (mock.ANY, mock.ANY), (AC, mock.ANY), (AC, (mock.ANY, "d")),
        ]
        for value in near + wrong_values():
            self.assertEqual(self.refused(BadPaper, exchanged, SQUARE, ONE, value).place, "exchange")

    def test_no_nets(self):
        wrong = [*near_nets(SQUARE.places, ONE), *wrong_values(), ()]
        for value in wrong:
            self.refuses(BadNet, value, exchanges, SQUARE)
            for pair in (THERE, BACK, None, [AC, BD]):
                self.assertIs(self.refused(BadNet, exchanged, SQUARE, value, pair).value, value)


class FewestExchangesTest(Case):

    def test_between_all_nets_of_every_map(self):
        for chart, nets in placed_nets():
            for (one, other), many in distances(nets).items():
                found = fewest_exchanges(chart, one, other)
                self.assertIs(found.__class__, tuple)
                self.assertEqual(len(found), many)
                self.assertEqual(follow(nets, one, found), other)
                self.assertIs(check_exchanges(chart, one, other, found), True)

    def test_from_a_net_to_itself(self):
        for chart, nets in placed_nets():
            for net in nets:
                self.assertEqual(fewest_exchanges(chart, net, net), ())

    def test_by_name(self):
        self.assertEqual(fewest_exchanges(other=OTHER, one=ONE, chart=SQUARE), (THERE,))
        self.assertEqual(fewest_exchanges(SQUARE, OTHER, ONE), (BACK,))

    def test_no_nets(self):
        for value in [*near_nets(SQUARE.places, ONE), *wrong_values(), ()]:
            self.refuses(BadNet, value, fewest_exchanges, SQUARE, ONE)
            self.assertIs(self.refused(BadNet, fewest_exchanges, SQUARE, value, ONE).value, value)
            self.assertEqual(self.refused(BadNet, fewest_exchanges, SQUARE, (AB,), value).value, (AB,))


def follow(nets, net, row):
    """The net to which a row of exchanges leads."""
    for pair in row:
        net = exchanges_at(nets, net)[pair]
    return net


def rows_from(nets, one, most):
    """All rows of at most so many exchanges from a net on, beside the nets to which they lead."""
    rows = [((), one)]
    for row, net in rows:
        if len(row) < most:
            rows.extend((row + (pair,), behind) for pair, behind in exchanges_at(nets, net).items())
    return rows


class CheckExchangesTest(Case):

    def test_each_row_leads_to_just_one_net(self):
        for chart, nets in placed_nets()[::5]:
            for row, net in rows_from(nets, nets[0], 4):
                for other in nets:
                    self.assertIs(check_exchanges(chart, nets[0], other, row), net == other)

    def test_longer_than_needed(self):
        for times in (0, 1, 2, 50, 700):
            row = (THERE, BACK) * times
            self.assertIs(check_exchanges(SQUARE, ONE, ONE, row), True)
            self.assertIs(check_exchanges(SQUARE, ONE, OTHER, (*row, THERE)), True)
            self.assertIs(check_exchanges(SQUARE, ONE, OTHER, row), False)
            self.assertIs(check_exchanges(SQUARE, ONE, ONE, (*row, THERE)), False)

    def test_cut_short_or_with_a_wrong_pair(self):
        for chart, nets in placed_nets():
            for one, other in itertools.product(nets, repeat=2):
                row = fewest_exchanges(chart, one, other)
                for n in range(len(row)):
                    self.assertIs(check_exchanges(chart, one, other, row[:n]), False)
                    self.assertIs(check_exchanges(chart, one, other, row[:n] + row[n + 1:]), False)
                    self.assertIs(check_exchanges(chart, one, other, row[:n] + (row[n][::-1],) + row[n + 1:]), False)
                    self.assertIs(check_exchanges(chart, one, other, row[:n] + (row[n],) + row[n:]), False)
                    self.assertIs(check_exchanges(chart, one, other, row[:n] + (list(row[n]),) + row[n + 1:]), False)

    def test_a_wrong_pair_behind_the_right_end(self):
        for value in [BACK[::-1], None, (), (AC,), [BD, AC], "x", (AB, CD), (BD, AC, AC), mock.ANY, (BD, ([], {}))]:
            self.assertIs(check_exchanges(SQUARE, ONE, OTHER, (THERE, value)), False)
            self.assertIs(check_exchanges(SQUARE, ONE, ONE, (value,)), False)

    def test_other_values(self):
        wrong = [[], [THERE], {}, {THERE}, {THERE: 1}, "", None, THERE, (THERE, THERE), (OTHER,), iter(()), range(0)]
        for value in wrong_values() + wrong:
            self.assertIs(check_exchanges(SQUARE, ONE, OTHER, value), False)
            self.assertIs(check_exchanges(SQUARE, ONE, ONE, value), False)

    def test_by_name(self):
        self.assertIs(check_exchanges(thing=(THERE,), other=OTHER, one=ONE, chart=SQUARE), True)
        self.assertIs(check_exchanges(thing=(THERE,), other=ONE, one=ONE, chart=SQUARE), False)

    def test_no_nets(self):
        for value in [*near_nets(SQUARE.places, ONE), *wrong_values(), ()]:
            for thing in ((), (THERE,), None, []):
                told = self.refused(BadNet, check_exchanges, SQUARE, value, ONE, thing)
                self.assertIs(told.value, value)
                told = self.refused(BadNet, check_exchanges, SQUARE, ONE, value, thing)
                self.assertIs(told.value, value)
                told = self.refused(BadNet, check_exchanges, SQUARE, (AB,), value, thing)
                self.assertEqual(told.value, (AB,))


class SameAgainTest(Case):

    def test_whatever_was_asked_in_between(self):
        chart, nets = placed_nets()[-1]
        self.assertEqual(chart.places, WORDS)
        before = [all_nets(chart), exchanges(chart, nets[0]), fewest_exchanges(chart, nets[0], nets[-1])]
        self.refused(BadNet, exchanges, chart, [])
        fewest_exchanges(chart, nets[-1], nets[0])
        check_exchanges(chart, nets[0], nets[0], ())
        again = [all_nets(chart), exchanges(chart, nets[0]), fewest_exchanges(chart, nets[0], nets[-1])]
        self.assertEqual(again, before)


if __name__ == "__main__":
    unittest.main()
