"""Balls: glued of two discs, and cut into two along rings of sides."""

from whatrims.corners import corners
from whatrims.errors import NotGlued
from whatrims.filling import fill
from whatrims.forms import form
from whatrims.gluings import beside, mate_of, mates, next_side, one_tile, part_of
from whatrims.pieces import pieces
from whatrims.rims import rim_of, rim_word


def glued(one, side, other, other_side, q):
    """Return the gluing of two discs, their rims tied all along, NotGlued if that gives other corners than of q."""
    letters, other_letters = rim_word(one, side), rim_word(other, other_side)
    many = len(letters)
    if len(other_letters) != many:
        raise NotGlued(None)
    for k in range(many):
        # The other rim goes the other way, so what ends here is what begins at the side behind.
        if letters[k] + other_letters[(1 - k) % many] != q:
            raise NotGlued(k)
    sizes, ties = beside(one, other)
    rim, other_rim = rim_of(one, side), rim_of(other, other_side)
    seam = []
    for k in range(many):
        t, i = other_rim[-k % many]
        seam.append((rim[k], (t + len(one[0]), i)))
    return (sizes, tuple(sorted([*ties, *seam])))


def ball_of(p, q):
    """Return the form of the ball whose tiles have p sides each, and whose corners have q shares each."""
    # The ball but for one tile is a disc, round whose rim one tile is missing at each corner.
    _, disc, side = fill(p, q, (q - 1,) * p)
    return form(glued(disc, side, one_tile(p), (0, 0), q))


def ring_fault(ball, sides):
    """Return None if the sides of a ball are a ring of sides, else the first fault."""
    begins = {share: number for number, corner in enumerate(corners(ball)) for share in corner}
    for k, side in enumerate(sides):
        # Ahead of the first side comes the last one.
        if begins[next_side(ball, sides[k - 1])] != begins[side]:
            return ("side", k)
    for k, side in enumerate(sides):
        if mate_of(ball, side) == sides[k - 1]:
            return ("back", k)
    met = {}
    for k, side in enumerate(sides):
        if begins[side] in met:
            return ("twice", k)
        met[begins[side]] = True
    return None


def halves(ball, sides):
    """Return the two discs into which a ring of sides cuts a ball, each with the side of it that is the first there."""
    tied_sides = mates(ball)
    seam = {side: True for side in sides}
    cut = (ball[0], tuple([tie for tie in ball[1] if tie[0] not in seam and tie[1] not in seam]))
    own = [t for t, _ in sides]
    left, right = [], []
    for lot in pieces(cut):
        if any([t in own for t in lot]):
            left += lot
        else:
            right += lot
    return (_half(cut, sorted(left), sides[0]), _half(cut, sorted(right), tied_sides[sides[0]]))


def _half(cut, tiles, side):
    t, i = side
    return (part_of(cut, tiles), (tiles.index(t), i))
