"""Region objects: the least convex polygon that contains some given mixes.

A mix (x, y, n) stands for the point (x / n, y / n). All questions are decided with integers: a fraction is never
divided out, both sides are multiplied by the numbers of beats instead, which are above 0.
"""

from math import gcd

from mixpace.errors import Barred, EmptyRegion
from mixpace.mixes import check_mix, lowest


class Region:
    """The least convex polygon that contains the mixes. It never changes."""

    def __init__(self, mixes):
        if len(mixes) == 0:
            raise EmptyRegion("a region object is made of at least one mix")
        self._corners = _corners_of([lowest(mix) for mix in mixes])
        self._sides = _sides_of(self._corners)

    @property
    def corners(self):
        """The corners as a new list of mixes, counterclockwise from the one with the least x and then y."""
        return list(self._corners)

    @property
    def sides(self):
        """The sides as a new list of bounds."""
        return list(self._sides)

    def __contains__(self, x):
        return self.bar(x) is None

    def __le__(self, other):
        return all([corner in other for corner in self._corners])

    def __eq__(self, other):
        return isinstance(other, Region) and self._corners == other._corners

    def bar(self, mix):
        """Returns the first side that bars the mix, or None if the mix belongs to the region."""
        check_mix(mix)
        x, y, n = mix
        for a, b, c in self._sides:
            if a * x + b * y > c * n:
                return (a, b, c)
        return None

    def weights(self, mix):
        """Returns pairs (index, weight) of one to three corners of which the mix is the weighted mean."""
        side = self.bar(mix)
        if side is not None:
            raise Barred(side)
        return _in_lowest_terms(_corner_weights(self._corners, mix))


def _corners_of(points):
    """Goes around the points, counterclockwise, from corner to corner."""
    start = _least(points)
    corners = [start]
    corner = _next_corner(points, start)
    while corner != start:
        corners.append(corner)
        corner = _next_corner(points, corner)
    return corners


def _least(points):
    """The point with the least x and, among those, the least y."""
    least = points[0]
    for point in points:
        if _is_before(point, least):
            least = point
    return least


def _next_corner(points, corner):
    """The corner after this one; this one itself if there is no other point."""
    after = corner
    for point in points:
        if point != corner and (after == corner or _comes_sooner(corner, point, after)):
            after = point
    return after


def _comes_sooner(corner, point, other):
    """Tells whether the border from the corner leads to the point rather than to the other one."""
    turn = _turn(corner, other, point)
    if turn == 0:
        # Both lie on one side of the corner, and only the farther one can be a corner.
        return _is_before(corner, other) == _is_before(other, point)
    return turn < 0


def _sides_of(corners):
    if len(corners) <= 2:
        return _four_sides(corners[0], corners[-1])
    following = corners[1:] + corners[:1]
    return [_side_along(corner, after) for corner, after in zip(corners, following)]


def _side_along(corner, after):
    """The side that holds with equality for this corner and for the one after it."""
    u, v = _direction(corner, after)
    return _side(v, -u, corner)


def _four_sides(p, q):
    """The sides of a segment, or of a point if both are equal."""
    u, v = (1, 0) if p == q else _direction(p, q)
    return [_side(v, -u, p), _side(u, v, q), _side(-v, u, p), _side(-u, -v, p)]


def _side(a, b, corner):
    """The bound in this direction that holds with equality for the corner."""
    x, y, n = corner
    c = a * x + b * y
    divisor = gcd(a * n, b * n, c)
    return (a * n // divisor, b * n // divisor, c // divisor)


def _corner_weights(corners, mix):
    """Pairs (index, weight) for a mix of the region; weights may be 0 and have common divisors."""
    if len(corners) == 1:
        return [(0, 1)]
    if len(corners) == 2:
        return _segment_weights(corners, mix)
    return _triangle_weights(corners, mix)


def _segment_weights(corners, mix):
    p, q = corners
    # The weights can be read off one coordinate, if the two corners differ in it.
    axis = 0 if _gap(p, q, 0) != 0 else 1
    return [(0, _gap(mix, q, axis) * p[2]), (1, _gap(p, mix, axis) * q[2])]


def _triangle_weights(corners, mix):
    """The weights in one of the triangles of corner 0 and two neighbours."""
    at = 1
    while _turn(corners[0], corners[at + 1], mix) > 0:
        at += 1
    p, q, r = corners[0], corners[at], corners[at + 1]
    return [
        (0, _turn(mix, q, r) * p[2]),
        (at, _turn(p, mix, r) * q[2]),
        (at + 1, _turn(p, q, mix) * r[2]),
    ]


def _in_lowest_terms(weights):
    """The pairs without weights of 0 and without a common divisor."""
    divisor = 0
    for _, weight in weights:
        divisor = gcd(divisor, weight)
    return [(index, weight // divisor) for index, weight in weights if weight > 0]


def _is_before(p, q):
    """Tells whether p has less x than q or, with the same x, less y."""
    across = _gap(p, q, 0)
    if across == 0:
        return _gap(p, q, 1) > 0
    return across > 0


def _direction(p, q):
    """The direction (u, v) from p to q."""
    return (_gap(p, q, 0), _gap(p, q, 1))


def _gap(p, q, axis):
    """The way from p to q along an axis, times both numbers of beats."""
    return q[axis] * p[2] - p[axis] * q[2]


def _turn(p, q, r):
    """Above 0 if the way from p over q to r turns left, below 0 if right, 0 if the three are in one line."""
    return (
        p[0] * (q[1] * r[2] - q[2] * r[1])
        + p[1] * (q[2] * r[0] - q[0] * r[2])
        + p[2] * (q[0] * r[1] - q[1] * r[0])
    )
