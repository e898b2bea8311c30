"""Exact geometry of the plane, over places that are pairs of integers."""


def cross(base, one, other):
    """Twice the size of the triangle base, one, other: above 0 if it runs counterclockwise."""
    return (
        (one[0] - base[0]) * (other[1] - base[1])
        - (one[1] - base[1]) * (other[0] - base[0])
    )


def dot(base, one, other):
    """Above 0 if one and other are seen from base within less than a quarter turn.

    For one and the same place it is the square of its distance from base.
    """
    return (
        (one[0] - base[0]) * (other[0] - base[0])
        + (one[1] - base[1]) * (other[1] - base[1])
    )


def on_same_ray(base, one, other):
    """Whether one and other lie straight behind one another as seen from base."""
    return cross(base, one, other) == 0 and dot(base, one, other) > 0


def on_segment(place, segment):
    """Whether a place lies on a segment, its ends included."""
    one, other = segment
    return cross(place, one, other) == 0 and dot(place, one, other) <= 0


def spans_touch(one, other, axis):
    """Whether the shadows of two pairs of places on an axis have a number in common."""
    return (
        max(one[0][axis], one[1][axis]) >= min(other[0][axis], other[1][axis])
        and max(other[0][axis], other[1][axis]) >= min(one[0][axis], one[1][axis])
    )


def boxes_touch(one, other):
    """Whether two upright boxes, each told by opposite ends, have a place in common."""
    return spans_touch(one, other, 0) and spans_touch(one, other, 1)


def reaches_across(segment, other):
    """Whether other does not lie wholly on one side of the straight line through a segment."""
    one_side = cross(segment[0], segment[1], other[0])
    other_side = cross(segment[0], segment[1], other[1])
    if one_side > 0:
        return other_side <= 0
    if one_side < 0:
        return other_side >= 0
    return True


def segments_meet(one, other):
    """Whether two segments have a place in common, their ends included."""
    # The shadows decide for two segments on one straight line: these always reach across.
    return (
        boxes_touch(one, other)
        and reaches_across(one, other)
        and reaches_across(other, one)
    )


def box_meets(box, segment):
    """Whether an upright box, told by opposite ends, has a place in common with a segment."""
    if not boxes_touch(box, segment):
        return False
    (left, low), (right, high) = box
    ends = ((left, low), (left, high), (right, low), (right, high))
    sides = [cross(segment[0], segment[1], end) for end in ends]
    return min(sides) <= 0 <= max(sides)


def chain_below(places):
    """Of places from left to right those along the lower side of their convex hull."""
    kept = []
    for place in places:
        while len(kept) > 1 and cross(kept[-2], kept[-1], place) <= 0:
            kept.pop()
        kept.append(place)
    return kept


def hull_of(places):
    """The ends of the convex hull of places, counterclockwise; two of them if it is flat."""
    ordered = sorted(places)
    return chain_below(ordered)[:-1] + chain_below(ordered[::-1])[:-1]


def in_hull(place, hull):
    """Whether a place lies in a convex hull, its sides included."""
    if len(hull) == 2:
        return on_segment(place, hull)
    for at in range(len(hull)):
        if cross(hull[at - 1], hull[at], place) < 0:
            return False
    return True


def first_in_hull(points, places):
    """The first of the points that lies in the convex hull of places and is none of these."""
    hull = hull_of(places)
    for point in points:
        if in_hull(point, hull) and point not in places:
            return point
    return None


def is_within(place, segment, square):
    """Whether the square of the distance of a place from a segment is at most square."""
    one, other = segment
    if dot(one, place, other) <= 0:
        return dot(one, place, place) <= square
    if dot(other, place, one) <= 0:
        return dot(other, place, place) <= square
    return cross(one, other, place) ** 2 <= square * dot(one, other, other)


def twice_around(places):
    """Twice the size that a closed walk goes around: above 0 if counterclockwise."""
    total = 0
    for at in range(len(places)):
        one, other = places[at - 1], places[at]
        total = total + one[0] * other[1] - one[1] * other[0]
    return total


def surrounds(places, place):
    """Whether a closed walk goes an odd number of times around a place that it does not meet."""
    odd = False
    for at in range(len(places)):
        low, high = places[at - 1], places[at]
        if low[1] > high[1]:
            low, high = high, low
        # A ray from the place to greater x; an end at its height counts as below it.
        if low[1] <= place[1] < high[1] and cross(low, high, place) > 0:
            odd = not odd
    return odd


def half_turn(center, base, place):
    """0 if a place is met within the first half turn counterclockwise from base, otherwise 1."""
    side = cross(center, base, place)
    if side == 0:
        return 0 if dot(center, base, place) > 0 else 1
    return 0 if side > 0 else 1


def ranks_around(center, base, places):
    """For each place the pair by which to sort them counterclockwise around center from base on."""
    halves = [half_turn(center, base, place) for place in places]
    ranks = []
    for half, place in zip(halves, places):
        earlier = [
            other
            for other_half, other in zip(halves, places)
            if other_half == half and cross(center, other, place) > 0
        ]
        ranks.append((half, len(earlier)))
    return ranks
