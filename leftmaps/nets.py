"""Nets of ways without crossings, and the exchanges that lead from one to another."""

from leftmaps.errors import BadNet, BadPaper
from leftmaps.looks import meet
from leftmaps.places import is_ascending, ways


def crossing_ways(chart):
    """A dict with the list of the ways that cross it for each way of the map."""
    every = ways(chart.places)
    across = {way: [] for way in every}
    for one in every:
        for other in every:
            if one < other and meet(chart, one, other):
                across[one].append(other)
                across[other].append(one)
    return across


def crossed_in(across, lot, way):
    """The ways of the lot that cross the way."""
    return [other for other in across[way] if other in lot]


def is_whole(across, lot):
    """Whether a way is in the lot of ways exactly if no way of the lot crosses it: then the lot is a net."""
    return all([(way in lot) == (crossed_in(across, lot, way) == []) for way in across])


def all_nets(chart):
    """All nets of the map, ascending."""
    across = crossing_ways(chart)
    lots = [()]
    for way in across:
        lots = lots + [lot + (way,) for lot in lots if crossed_in(across, lot, way) == []]
    return tuple(sorted([lot for lot in lots if is_whole(across, lot)]))


def is_net(chart, thing):
    """Whether any value is a net of the map."""
    return is_net_of(crossing_ways(chart), thing)


def is_net_of(across, thing):
    """Whether any value is a net of the map with these crossing ways."""
    return are_ways_of(across, thing) and is_ascending(thing) and is_whole(across, thing)


def are_ways_of(across, thing):
    """Whether any value is a tuple of ways."""
    return isinstance(thing, tuple) and all([is_way_of(across, item) for item in thing])


def is_way_of(across, thing):
    """Whether any value is one of the ways."""
    if not isinstance(thing, tuple) or not all([isinstance(item, str) for item in thing]):
        return False
    return thing in across


def need_net(across, thing):
    """The value itself, which is a net of the map with these crossing ways."""
    if not is_net_of(across, thing):
        raise BadNet(thing)
    return thing


def exchanges(chart, net):
    """All exchanges of the net, ascending."""
    across = crossing_ways(chart)
    need_net(across, net)
    return exchanges_of(across, net)


def exchanges_of(across, net):
    """All exchanges of what is known to be a net, ascending."""
    found = []
    for way in across:
        crossed = crossed_in(across, net, way)
        if len(crossed) == 1:
            found.append((crossed[0], way))
    return tuple(sorted(found))


def is_exchange(across, net, thing):
    """Whether any value is an exchange of what is known to be a net."""
    return are_ways_of(across, thing) and thing in exchanges_of(across, net)


def exchanged(chart, net, pair):
    """The net behind the exchange."""
    across = crossing_ways(chart)
    need_net(across, net)
    if not is_exchange(across, net, pair):
        raise BadPaper("exchange")
    return swapped(net, pair)


def swapped(net, pair):
    """The net with the second way of the pair in the place of the first one."""
    return tuple(sorted([way for way in net if way != pair[0]] + [pair[1]]))


def fewest_exchanges(chart, one, other):
    """A shortest tuple of exchanges that leads from one net to the other one."""
    across = crossing_ways(chart)
    need_net(across, one)
    need_net(across, other)
    rows = {one: ()}
    reached = [one]
    while other not in rows:
        further = nets_behind(across, rows, reached)
        for net in further:
            rows[net] = further[net]
        reached = list(further)
    return rows[other]


def nets_behind(across, rows, reached):
    """The nets without a row of exchanges to them that are one exchange behind those reached, with such rows."""
    found = {}
    for net in reached:
        for pair in exchanges_of(across, net):
            behind = swapped(net, pair)
            if behind not in rows:
                found[behind] = rows[net] + (pair,)
    return found


def check_exchanges(chart, one, other, thing):
    """Whether any value is a tuple of exchanges that leads from one net to the other one."""
    across = crossing_ways(chart)
    need_net(across, one)
    need_net(across, other)
    if not isinstance(thing, tuple):
        return False
    net = one
    for pair in thing:
        if not is_exchange(across, net, pair):
            return False
        net = swapped(net, pair)
    return net == other
