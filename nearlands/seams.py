"""The seam between two lots of spots, and the lands of both lots put together."""

from nearlands.errors import NoLot
from nearlands.lands import cut_off, land_within
from nearlands.orders import ordered
from nearlands.points import ahead
from nearlands.spots import are_unlike, by_place, check_box_and_spots, check_spots


def check_lot(box, spots, lot):
    """Refuse what is wrong with the box and the spots, then a list that is no lot of them."""
    check_box_and_spots(box, spots)
    if not are_unlike(spots, lot) or len(lot) == len(spots):
        raise NoLot("a lot is made of unlike numbers of spots, at least one, and not all")


def seam(box, spots, lot):
    """Tell the edges between lands of the lot and lands of the others, rising, each with its two spots."""
    check_lot(box, spots, lot)
    rows = []
    for number in lot:
        corners, edges = land_within(box, spots, number)
        for start, end, called in zip(corners, corners[1:] + corners[:1], edges):
            if called >= 0 and called not in lot:
                rows.append((start, end, number, called))
    return ordered(rows, edge_before)


def edge_before(one, other):
    """Tell whether the one edge stands ahead of the other: by where they begin, then by where they end."""
    if one[0] == other[0]:
        return ahead(one[1], other[1])
    return ahead(one[0], other[0])


def kept(box, spots, lot):
    """Tell the spots of the lot whose land is the same whether the others are there or not."""
    at_seam = [row[2] for row in seam(box, spots, lot)]
    return [number for number in sorted(lot) if number not in at_seam]


def halves(spots):
    """Tell the numbers of the first half of the spots ordered by x, then by y, and those of the others."""
    check_spots(spots)
    if len(spots) == 1:
        raise NoLot("one spot has no halves")
    order = by_place(spots)
    half = len(spots) // 2
    return (sorted(order[:half]), sorted(order[half:]))


def joined(box, spots, lot, ours, others):
    """Tell the lands of all spots, of the lands of a lot and of the others, each as they are without the rest."""
    check_lot(box, spots, lot)
    ours_by = sorted(lot)
    others_by = [number for number in range(len(spots)) if number not in lot]
    told = {}
    for number, field in zip(ours_by, ours):
        told[number] = cut_off(field, spots, number, others_by)
    for number, field in zip(others_by, others):
        told[number] = cut_off(field, spots, number, ours_by)
    return [told[number] for number in range(len(spots))]
