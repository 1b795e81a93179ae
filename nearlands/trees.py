"""The least tree, and the ways along it."""

from nearlands.points import scaled_square, spot_point
from nearlands.spots import check_number, check_spots


def step_square(spots, one, other):
    """Tell the square of the way between the spots of two numbers."""
    return scaled_square(spot_point(spots[one]), spots[other])


def least_tree(spots):
    """Tell the pairs of the least tree, in the order in which they are taken."""
    check_spots(spots)
    pairs = [(one, other) for one in range(len(spots)) for other in range(one + 1, len(spots))]
    # Those that are as far stay as they came: by lesser pairs.
    pairs = sorted(pairs, key=lambda pair: step_square(spots, pair[0], pair[1]))
    # Of each spot a number that it shares with just those to which taken pairs lead from it.
    groups = list(range(len(spots)))
    taken = []
    for one, other in pairs:
        if groups[one] != groups[other]:
            taken.append((one, other))
            groups = joined_groups(groups, groups[one], groups[other])
    return taken


def joined_groups(groups, one, other):
    """Tell the groups of all spots when those of the other belong to the one."""
    return [one if group == other else group for group in groups]


def tree_way(spots, one, other):
    """Tell the spots by which the least tree leads from the one to the other."""
    check_spots(spots)
    check_number(spots, one)
    check_number(spots, other)
    pairs = least_tree(spots)
    steps = pairs + [(there, here) for here, there in pairs]
    ways = {one: [one]}
    while other not in ways:
        for here, there in steps:
            if here in ways and there not in ways:
                ways[there] = ways[here] + [there]
    return ways[other]
