"""The examples of the document's interface, as they stand there."""

import unittest

from tests.helpers import run_examples

ERRORS = """
    >>> from whatrims.errors import BadName, BadText, Clash
    >>> [BadText(3).place, Clash(("a", "b")).names, BadName(["a", None]).name]
    [3, ('a', 'b'), ['a', None]]
"""

GLUINGS = """
    >>> from whatrims.gluings import beside, is_gluing, mate_of, mirrored, named, next_side, one_tile, part_of, parted, rim_sides, tied
    >>> TWO = ((4, 3), (((0, 1), (1, 2)),))
    >>> [is_gluing(TWO), is_gluing(((4, 3), (((1, 2), (0, 1)),))), is_gluing(((2,), ())), is_gluing([(4,), ()])]
    [True, False, False, False]
    >>> [mate_of(TWO, (1, 2)), mate_of(TWO, (0, 0)), next_side(TWO, (0, 3)), rim_sides(TWO)]
    [(0, 1), None, (0, 0), [(0, 0), (0, 2), (0, 3), (1, 0), (1, 1)]]
    >>> [tied(beside(one_tile(4), one_tile(3)), (1, 2), (0, 1)) == TWO, parted(TWO, (0, 1)), part_of(TWO, [1])]
    [True, ((4, 3), ()), ((3,), ())]
    >>> [named(TWO, (1, 0), (1, 0)), mirrored(TWO), mirrored(mirrored(TWO)) == TWO]
    [((3, 4), (((0, 2), (1, 0)),)), ((4, 3), (((0, 2), (1, 0)),)), True]
"""

TEXTS = """
    >>> from whatrims.texts import gluing_text, read_gluing, read_word, word_text
    >>> [gluing_text(TWO), gluing_text(one_tile(5)), word_text((2, 1, 1))]
    ['4 3;0.1=1.2', '5', '2 1 1']
    >>> [read_gluing("4 3;0.1=1.2") == TWO, read_gluing("24"), read_word("2 1 1")]
    [True, ((24,), ()), (2, 1, 1)]
    >>> read_gluing("4 2")
    raises BadText(place=3)
    >>> read_gluing("4 3;0.1=0.1")
    raises BadText(place=11)
    >>> read_gluing("4 3;")
    raises BadText(place=4)
    >>> read_gluing("4 3;7.0=1.2")
    raises BadText(place=7)
    >>> read_gluing("4 4;0.1=1.3 0.0=1.0")
    raises BadText(place=19)
"""

CORNERS = """
    >>> from whatrims.corners import backward, corner_of, corners, is_inner, onward
    >>> TWO = ((4, 4), (((0, 1), (1, 3)),))
    >>> BLOCK = ((4, 4, 4, 4), (((0, 1), (1, 3)), ((0, 2), (3, 0)), ((1, 2), (2, 0)), ((2, 3), (3, 1))))
    >>> [onward(TWO, (0, 1)), onward(TWO, (1, 0)), backward(TWO, (1, 0)), backward(TWO, (0, 2)), onward(BLOCK, (0, 2))]
    [(1, 0), None, (0, 1), (1, 3), (3, 1)]
    >>> [corner_of(TWO, (0, 2)), corner_of(BLOCK, (2, 0)), is_inner(BLOCK, corner_of(BLOCK, (2, 0))), is_inner(TWO, ((0, 0),))]
    [((1, 3), (0, 2)), ((0, 2), (3, 1), (2, 0), (1, 3)), True, False]
    >>> corners(TWO)
    [((0, 0),), ((0, 1), (1, 0)), ((1, 3), (0, 2)), ((0, 3),), ((1, 1),), ((1, 2),)]
"""

RIMS = """
    >>> from whatrims.rims import next_rim_side, rim_of, rim_word, rim_words, rims
    >>> BAND = ((4, 4), (((0, 1), (1, 3)), ((0, 3), (1, 1))))
    >>> [next_rim_side(TWO, (0, 0)), next_rim_side(TWO, (1, 2)), next_rim_side(BAND, (1, 0)), rims(BAND)]
    [(1, 0), (0, 2), (0, 0), [((0, 0), (1, 0)), ((0, 2), (1, 2))]]
    >>> [rim_of(TWO, (0, 2)), rim_word(TWO, (0, 0)), rim_word(TWO, (0, 2)), rim_words(BAND)]
    [((0, 2), (0, 3), (0, 0), (1, 0), (1, 1), (1, 2)), (1, 2, 1, 1, 2, 1), (2, 1, 1, 2, 1, 1), [(2, 2), (2, 2)]]
"""

PIECES = """
    >>> from whatrims.pieces import apart, counts, handles, is_ball, is_disc, is_of, kind_fault, layers, over_sides, pieces, touching, twice, worth
    >>> [counts(TWO), counts(BLOCK), worth(BLOCK), worth(BAND), handles(BAND), is_disc(BLOCK), is_disc(BAND)]
    [(2, 7, 6, 0), (4, 12, 9, 1), 1, 0, 0, True, False]
    >>> [pieces(((3, 4, 3), (((0, 0), (2, 1)),))), twice(BAND), twice(((4,), (((0, 0), (0, 2)),))), is_ball(((3, 3), (((0, 0), (1, 0)), ((0, 1), (1, 2)), ((0, 2), (1, 1)))))]
    [[(0, 2), (1,)], [], [0], True]
    >>> [is_of(BLOCK, 4, 4), kind_fault(BLOCK, 4, 5), kind_fault(TWO, 4, 3), kind_fault(BLOCK, 3, 6), kind_fault(TWO, 4, 4)]
    [True, ('inner', ((0, 2), (3, 1), (2, 0), (1, 3))), None, ('tile', 0), None]
    >>> [over_sides(BLOCK, 0), touching(BLOCK, 0), touching(TWO, 1), apart(BLOCK, 0, 2), layers(BLOCK, 0), apart(((3, 4, 3), (((0, 0), (2, 1)),)), 0, 1)]
    [(None, 1, 3, None), [1, 2, 3], [0], 2, [(0,), (1, 3), (2,)], None]
"""

SUMS = """
    >>> from whatrims.sums import back_word, ball_counts, corners_gap, corners_sum, floor_of, least_turn, over_corners, over_tiles
    >>> from whatrims.sums import rim_corners_sum, rim_length, rim_sum, tiles_sum, turned_word, worth_corners, worth_sum
    >>> [floor_of(5, 3), floor_of(4, 4), floor_of(7, 3), ball_counts(5, 3), ball_counts(3, 4), ball_counts(4, 4)]
    ['ball', 'flat', 'wide', (12, 30, 20), (8, 12, 6), None]
    >>> [turned_word((1, 1, 2, 3), 2), least_turn((2, 1, 3, 1)), back_word((1, 1, 2, 3))]
    [(2, 3, 1, 1), (1, 2, 1, 3), (3, 2, 1, 1)]
    >>> TWO_SQUARES = ((4, 4), (((0, 1), (1, 3)),))
    >>> [tiles_sum(TWO_SQUARES, 4), worth_sum(TWO_SQUARES, 4), tiles_sum(TWO_SQUARES, 5), worth_sum(TWO_SQUARES, 5), over_corners(TWO_SQUARES, 5)]
    [0, 0, -4, -4, 0]
    >>> [corners_sum(TWO_SQUARES, 4), worth_corners(TWO_SQUARES, 4), over_tiles(TWO_SQUARES, 3), corners_gap(TWO_SQUARES, 3)]
    [0, 0, 2, 4]
    >>> [rim_sum(5, (2, 1, 2, 1, 2) * 2), rim_corners_sum(4, (1, 1, 2, 1, 1, 2)), rim_length(4, 4, 1), rim_length(6, 3, 0)]
    [-8, 0, 8, 14]
"""

DRAWN = """
    >>> from whatrims.drawn import area_of, comes_home, cross_sum, drawn, judge_unlike, size_of, sized_words, sizes_told, touches
    >>> from whatrims.drawn import turns_of, unlike_sizes
    >>> drawn(6, 3, (1,) * 6)
    [(0, 0), (1, 0), (1, 1), (0, 2), (-1, 2), (-1, 1), (0, 0)]
    >>> [drawn(4, 4, (1, 1, 1, 2, 1)), turns_of(4, 4, (1, 1, 1, 2, 1)), comes_home(4, 4, (1, 1, 1, 2, 1)), comes_home(4, 4, (1, 2) * 4)]
    [[(0, 0), (1, 0), (1, 1), (0, 1), (-1, 1), (-1, 0)], 4, False, True]
    >>> [cross_sum(drawn(6, 3, (1,) * 6)), area_of(6, 3, (1,) * 6), area_of(3, 6, (2,) * 6), area_of(4, 4, (1, 2) * 4), touches(4, 4, (1, 2) * 4)]
    [6, 1, 6, 4, []]
    >>> [size_of(5, 3, (1,) * 5), size_of(4, 5, (2, 1, 2, 1, 2) * 3), size_of(7, 3, (1,) * 7), size_of(4, 5, (1, 1, 1))]
    [('size', 1, 0), ('none', ((17, 2), (2, 1))), ('size', 1, 0), ('none', ((-1, 2), (-1, 1)))]
    >>> [size_of(4, 4, (1, 2) * 4), size_of(4, 4, (1, 2, 2, 1, 1, 2, 2, 1)), size_of(4, 4, (1, 1, 1)), size_of(4, 4, (1, 1, 1, 2, 1))]
    [('size', 4, 1), ('size', 3, 0), ('none', ('turns', 3)), ('none', ('open', (-1, 0)))]
    >>> [size_of(4, 4, (1, 3, 1, 1) * 2), touches(4, 4, (1, 3, 1, 1) * 2)]
    [('none', ('area', 2)), [(1, 5)]]
    >>> [unlike_sizes(7, 3), judge_unlike(4, 4, unlike_sizes(4, 4)), judge_unlike(4, 4, ("words", (1, 2) * 4, (1, 2, 2, 1, 1, 2, 2, 1))), judge_unlike(4, 4, ("words", (1, 2) * 4, (1, 1, 1, 1))), judge_unlike(4, 4, None)]
    [None, None, None, ('length',), ('flat',)]
    >>> [sized_words(4, 4, 4), sized_words(4, 4, 6), sizes_told(4, 4, 8)]
    [[(1, 1, 1, 1)], [(1, 1, 2, 1, 1, 2)], [3, 4]]
"""

LAYING = """
    >>> from whatrims.laying import begins, built, is_layings, laid, laid_word, lays, may_lay
    >>> SQUARE = ((4,), ())
    >>> [laid(SQUARE, (0, 1), 1, 4), laid(laid(SQUARE, (0, 1), 1, 4), (0, 0), 2, 3)]
    [((4, 4), (((0, 1), (1, 0)),)), ((4, 4, 3), (((0, 0), (2, 1)), ((0, 1), (1, 0)), ((1, 1), (2, 0))))]
    >>> [laid_word((1, 1, 1, 1), 1, 1, 4), laid_word((1, 1, 1, 1), 3, 2, 4), laid_word((1, 2, 1, 1, 2, 1), 0, 2, 3)]
    [(1, 2, 1, 1, 2, 1), (2, 1, 2, 1), (2, 2, 1, 2, 1)]
    >>> [may_lay(4, 4, (1, 2, 1, 1, 2, 1), 0, 2), may_lay(4, 3, (1, 2, 1, 1, 2, 1), 0, 2), may_lay(4, 3, (1, 2, 1, 1, 2, 1), 1, 1), lays(4, 3, (1, 2, 1, 1, 2, 1))]
    [False, True, False, [(0, 2), (2, 1), (3, 2), (5, 1)]]
    >>> LAYINGS = ((4,), (1, 1, 4), (0, 2, 4))
    >>> [built(LAYINGS[:2]), begins(LAYINGS[:2]), begins(LAYINGS), is_layings(LAYINGS), is_layings(((4, 4),)), is_layings(((4,), (0, 1)))]
    [((4, 4), (((0, 1), (1, 0)),)), (0, 0), (2, 2), True, False, False]
    >>> built(((4,), (4, 1, 4)))
    raises NotLaid(number=1)
"""

TAKING = """
    >>> from whatrims.taking import judge_layings, layings_of, not_disc, taken, takers, takings
    >>> ROW = ((4, 4, 4), (((0, 1), (1, 3)), ((1, 1), (2, 3))))
    >>> [taken(ROW, 0), takers(ROW), takers(SQUARE), takings(ROW), takings(SQUARE), layings_of(SQUARE)]
    [((4, 4), (((0, 1), (1, 3)),)), [0, 2], [], 4, 1, ((4,),)]
    >>> [judge_layings(taken(ROW, 0), ((4,), (0, 1, 4))), judge_layings(ROW, ((4,), (0, 1, 4), (0, 7, 4))), judge_layings(ROW, ((4,), (0, 1, 4))), judge_layings(ROW, ((4,), (0, 1)))]
    [None, ('laid', 2), ('unlike',), ('form',)]
    >>> BAND = ((4, 4), (((0, 1), (1, 3)), ((0, 3), (1, 1))))
    >>> [not_disc(ROW), not_disc(((4, 4), ())), not_disc(BAND), not_disc(((3,), (((0, 0), (0, 1)),)))]
    [None, ('pieces', [(0,), (1,)]), ('rims', [((0, 0), (1, 0)), ((0, 2), (1, 2))]), ('twice', 0)]
"""

FORMS = """
    >>> from whatrims.forms import code, form, is_form, is_like, is_mirrorlike, judge_likening, likening, mirror_form, starts
    >>> SQUARE, PAIR = ((4,), ()), ((4, 4), (((0, 1), (1, 3)),))
    >>> [code(PAIR, (1, 0)), form(PAIR), starts(PAIR), starts(SQUARE)]
    [((4, 4), (((0, 3), (1, 0)),)), ((4, 4), (((0, 0), (1, 0)),)), [(0, 1), (1, 3)], [(0, 0), (0, 1), (0, 2), (0, 3)]]
    >>> ROW, BENT = ((4, 4, 4), (((0, 1), (1, 3)), ((1, 1), (2, 3)))), ((4, 4, 4), (((0, 1), (1, 3)), ((1, 0), (2, 2))))
    >>> [is_form(form(ROW)), is_form(ROW), is_like(ROW, BENT), likening(PAIR, form(PAIR))[0], likening(SQUARE, PAIR)]
    [True, False, False, 'like', ('sizes', (4,), (4, 4))]
    >>> [judge_likening(PAIR, form(PAIR), ("like", (0, 1), (3, 1))), judge_likening(PAIR, form(PAIR), ("like", (0, 1), (1, 3)))]
    [None, ('tie', (0, 1))]
    >>> [judge_likening(PAIR, PAIR, ("like", (1, 0), (2, 2))), judge_likening(PAIR, PAIR, ("like", (1, 0), (2, 0))), is_mirrorlike(BENT)]
    [None, ('tie', (0, 1)), True]
"""

DISCS = """
    >>> from whatrims.discs import all_discs, counted, grown, is_disc_form, most_turned
    >>> [all_discs(4, 4, 1), all_discs(4, 4, 2), len(grown(4, 4, [form(PAIR)])), counted(4, 4, 4), counted(6, 3, 3)]
    [[((4,), ())], [((4, 4), (((0, 0), (1, 0)),))], 2, (7, 5, (6, 1)), (3, 3, (2, 1))]
    >>> [is_disc_form(4, 4, form(PAIR)), is_disc_form(6, 3, form(PAIR)), is_disc_form(4, 4, None), len(most_turned(4, 4, 4))]
    [True, False, False, 1]
"""

RINGS = """
    >>> from whatrims.rings import ring, ringed
    >>> ring(4, 4, (1, 1, 1, 1))
    ((1, 0, 1, 0, 1, 0, 1, 0), (2, 2, 1, 2, 2, 1, 2, 2, 1, 2, 2, 1))
    >>> [ring(6, 3, (2, 1, 2, 1, 2, 1))[0], ring(3, 7, (1, 1, 1))[1], len(ring(7, 3, (2, 1, 1, 1) * 7)[0])]
    [(2, 2, 2), (3, 2, 2, 2, 3, 2, 2, 2, 3, 2, 2, 2), 21]
    >>> [ring(6, 6, (2, 5, 5)), ring(3, 7, (1, 5, 5))]
    [((3, 0, 0), (2, 2, 1, 1, 1, 2, 1, 1, 1)), ((1, 1, 1, 0, 0, 0, 0), (5, 2, 2, 2))]
    >>> ring(4, 4, (1, 3, 3, 1, 1, 1))
    raises NoRing(place=0)
    >>> ring(4, 4, (3, 2, 3, 2, 3, 2, 3, 2))
    raises NoRing(place=8)
    >>> ring(3, 6, (1, 5, 1, 1))
    raises NoRing(place=1)
    >>> from whatrims.gluings import one_tile
    >>> ringed(one_tile(6), 6, 3, (0, 0))[1][:8]
    (((0, 0), (1, 0)), ((0, 1), (2, 0)), ((0, 2), (3, 0)), ((0, 3), (4, 0)), ((0, 4), (5, 0)), ((0, 5), (6, 0)), ((1, 1), (6, 5)), ((1, 5), (2, 1)))
"""

RINGCOUNTS = """
    >>> from whatrims.ringcounts import makes, ring_counts, ring_kinds, ring_of_tile, ring_rests, ring_size, within
    >>> [ring_kinds(4, 4, 1), ring_kinds(6, 3, 2), ring_kinds(3, 6, 1), ring_kinds(3, 6, 2)[:9]]
    ['SCSCSCSC', 'BABABABABABA', 'SCCDSCCDSCCD', 'SCDSCDSDS']
    >>> [makes(6, 4), makes(7, 3), makes(3, 7)]
    [{'S': 'SCSCS', 'C': 'SCSCSCS'}, {'A': 'BAA', 'B': 'BA'}, {'S': '', 'C': 'SCCD', 'D': 'SCD'}]
    >>> [ring_counts(7, 3, 2), [ring_size(7, 3, n) for n in range(5)], within(4, 4, 10 ** 30) == (2 * 10 ** 30 + 1) ** 2]
    [{'A': 14, 'B': 7}, [1, 7, 21, 56, 147], True]
    >>> [ring_of_tile(4, 4, 8), ring_of_tile(4, 4, 9), ring_of_tile(7, 3, 28), ring_rests(6, 3, 10 ** 30, 7)]
    [(1, 7), (2, 0), (2, 20), {'A': 6, 'B': 0}]
    >>> ring_size(4, 5, 401)
    raises TooMany()
"""

PLACES = """
    >>> from whatrims.places import elders, first_made, inside_outside, is_place, kind_of_place, made, maker, path_of, place_of_path
    >>> [inside_outside(4, 5, "S"), inside_outside(4, 5, "C"), inside_outside(6, 3, "B"), inside_outside(3, 6, "S"), inside_outside(6, 3, "O")]
    [(1, 1), (0, 2), (2, 2), (1, 0), (0, 6)]
    >>> [is_place(4, 4, (2, 15)), is_place(4, 4, (2, 16)), is_place(4, 4, (0, False)), is_place(4, 4, [1, 0])]
    [True, False, False, False]
    >>> [kind_of_place(4, 5, (1, 1)), kind_of_place(7, 3, (2, 0)), kind_of_place(3, 7, (1, 4)), kind_of_place(4, 4, (0, 0))]
    ['C', 'B', 'D', 'O']
    >>> [path_of(4, 4, (2, 3)), place_of_path(4, 4, (1, 2)), path_of(4, 4, (0, 0)), path_of(3, 6, (2, 7))]
    [(1, 2), (2, 3), (), (3, 1)]
    >>> [maker(4, 4, (2, 3)), made(4, 4, (1, 1)), first_made(4, 4, (1, 2)), made(3, 6, (1, 0)), first_made(3, 6, (1, 4))]
    [((1, 1), 2), [(2, 1), (2, 2), (2, 3)], 4, [], 8]
    >>> [elders(4, 4, (1, 1)), elders(4, 4, (2, 0)), elders(6, 3, (2, 0)), elders(3, 6, (2, 7)), elders(4, 5, (2, 1))]
    [((0, 0),), ((1, 0),), ((1, 5), (1, 0)), ((1, 3), (1, 4), (1, 5)), ((1, 0), (1, 1))]
"""

OVER = """
    >>> from whatrims.over import judge_walk, least_sides, least_walk, near, neighbours, over, patch
    >>> from whatrims.over import round_corner, side_words, straight, walked, within_ring
    >>> [over(4, 4, (0, 0), 1), over(4, 4, (1, 2), 0), over(4, 4, (1, 0), 1), over(4, 4, (1, 1), 2), over(6, 3, (2, 0), 1), over(6, 3, (1, 5), 4)]
    [((1, 2), 0), ((0, 0), 1), ((1, 7), 3), ((2, 3), 0), ((1, 5), 4), ((2, 0), 1)]
    >>> [over(3, 6, (1, 1), 1), over(3, 6, (2, 0), 0), side_words(4, 4, (1, 0)), side_words(3, 6, (1, 1)), neighbours(4, 4, (1, 0))]
    [((2, 0), 0), ((1, 1), 1), ('in', 'ahead', 'out', 'next'), ('ahead', 'out', 'next'), [(0, 0), (1, 7), (2, 0), (1, 1)]]
    >>> round_corner(4, 4, (0, 0), 0)
    [((0, 0), 0), ((1, 0), 1), ((1, 7), 0), ((1, 6), 0)]
    >>> [walked(4, 4, (0, 0), [0, 2, 2]), straight(4, 4, (0, 0), 0, 3), straight(4, 4, (2, 0), 0, 3)]
    [[(0, 0), (1, 0), (2, 0), (3, 0)], ((3, 0), 2), ((1, 4), 2)]
    >>> [near(4, 4, (0, 0), 1), near(4, 4, (1, 1), 0), least_sides(4, 4, (0, 0), (1, 1)), least_sides(4, 4, (2, 0), (1, 4))]
    [[(0, 0), (1, 0), (1, 2), (1, 4), (1, 6)], [(1, 1)], 2, 3]
    >>> [least_walk(4, 4, (0, 0), (2, 0)), judge_walk(4, 4, (0, 0), (2, 0), [0, 2]), judge_walk(4, 4, (0, 0), (2, 0), [0])]
    [[0, 2], None, ('ends', (1, 0))]
    >>> [judge_walk(4, 4, (0, 0), (0, 0), (0, 0)), judge_walk(4, 4, (0, 0), (0, 0), [4])]
    [('longer', 2), ('form',)]
    >>> [patch(4, 4, [(0, 0), (1, 0)]), within_ring(6, 3, 0), patch(4, 4, [(1, 1), (1, 0)])]
    [((4, 4), (((0, 0), (1, 0)),)), ((6,), ()), ((4, 4), (((0, 0), (1, 3)),))]
    >>> [len(within_ring(7, 3, 2)[0]), len(within_ring(4, 4, 1)[1])]
    [29, 12]
"""

WAYS = """
    >>> from whatrims.ways import is_word, mirror_word, parts_of, rests, way_of, ways
    >>> ONE, TWO, STAR = (1, 1, 1, 1), (1, 1, 2, 1, 1, 2), (1, 2) * 5
    >>> [is_word(4, 4, TWO), is_word(4, 4, (1, 4, 1)), is_word(4, 4, (1, 1)), is_word(4, 4, [1, 1, 1]), is_word(4, 4, (True, 1, 1))]
    [True, False, False, False, False]
    >>> [mirror_word((1, 2, 3, 4)), mirror_word((1, 2, 3))]
    [(2, 1, 4, 3), (2, 1, 3)]
    >>> [ways(4, 4, ONE), ways(4, 4, TWO), ways(4, 5, STAR), ways(4, 4, (1, 1, 1))]
    [[((2, 0), (3, 0))], [((2, 0), (5, 1))], [((), (9, 1))], []]
    >>> [rests(4, 4, ONE, ((2, 0), (3, 0))), rests(4, 4, TWO, ((2, 0), (5, 1))), rests(4, 5, STAR, ((), (9, 1)))]
    [[], [(1, 1, 1, 1)], [(1, 1, 2, 1, 2, 1, 2, 1, 1, 4)]]
    >>> DOMINO = ((4, 4), (((0, 1), (1, 3)),))
    >>> [way_of(4, 4, DOMINO, (0, 3)), parts_of(4, 4, DOMINO, (0, 3))]
    [((2, 0), (5, 1)), [(((4,), ()), (0, 0))]]
"""

FILLING = """
    >>> from whatrims.filling import all_fills, fill, filled_words, fills, judge_fill, put_first
    >>> [fill(4, 4, TWO)[0], fill(7, 3, (1,) * 12)[0], fills(4, 4, TWO), fills(4, 5, STAR), fills(7, 3, (1,) * 12)]
    ['disc', 'barred', 1, 1, 0]
    >>> [judge_fill(4, 4, TWO, ("disc", DOMINO, (0, 3))), judge_fill(4, 4, TWO, ("disc", DOMINO, (0, 0))), judge_fill(4, 4, TWO, ("disc", DOMINO, (0, 1)))]
    [None, ('word', (1, 2, 1, 1, 2, 1)), ('rim',)]
    >>> [judge_fill(4, 4, TWO, ("barred", (TWO,))), judge_fill(4, 4, ONE, ("barred", (TWO,))), judge_fill(4, 4, (1, 1, 1), ("barred", ((1, 1, 1),)))]
    [('open', (1, 1, 2, 1, 1, 2), ((2, 0), (5, 1))), ('lacks',), None]
    >>> put_first(4, 4, TWO, ((2, 0), (5, 1)), [(((4,), ()), (0, 0))]) == all_fills(4, 4, TWO)[0]
    True
    >>> [filled_words(4, 4, 4), filled_words(4, 4, 6), filled_words(6, 3, 6)]
    [[(1, 1, 1, 1)], [(1, 1, 2, 1, 1, 2)], [(1, 1, 1, 1, 1, 1)]]
"""

COILS = """
    >>> from whatrims.coils import coil, coil_rim
    >>> [coil(4, 4, 1), coil_rim(4, 4, 4), coil_rim(4, 4, 9), coil_rim(6, 3, 7), coil_rim(4, 5, 13), coil_rim(3, 7, 1)]
    [((4,), ()), (8, 12, 1), (12, 20, 4), (18, 24, 6), (20, 32, 4), (3, 3, 0)]
"""

ODD = """
    >>> from whatrims.odd import due_counts, fill_with, judge_fill_with
    >>> [due_counts(3, (5, 6), (1, 2) * 5, 6), due_counts(3, (5, 6), (1, 1, 1, 1), 3), due_counts(3, (5, 6), (1, 2, 1), 3)]
    [[(6, 0)], [(2, 0), (2, 1)], []]
    >>> PENTAGON = ((5,), ())
    >>> [fill_with(3, (5, 6), (1, 1, 1, 1, 1), 1)[:2], fill_with(3, (5, 6), (1, 1, 1, 1), 3)[0]]
    [('disc', ((5,), ())), 'barred']
    >>> [judge_fill_with(3, (5, 6), (1, 1, 1, 1, 1), 2, ("disc", PENTAGON, (0, 3))), judge_fill_with(3, (6,), (1,) * 5, 2, ("disc", PENTAGON, (0, 3)))]
    [None, ('size', 0)]
    >>> [judge_fill_with(3, (5, 6), (1, 1, 1, 1), 3, ("barred", (((1, 1, 1, 1), 3),))), judge_fill_with(3, (5, 6), (1, 1, 1, 1, 1), 2, ("barred", (((1, 1, 1, 1, 1), 2),)))]
    [None, ('open', ((1, 1, 1, 1, 1), 2))]
"""

CLOSED = """
    >>> from whatrims.closed import ball_of, glued, halves, ring_fault
    >>> TRI, CAP = ((3,), ()), ((3, 3, 3), (((0, 1), (1, 2)), ((0, 2), (2, 1)), ((1, 1), (2, 2))))
    >>> BALL = glued(TRI, (0, 0), CAP, (0, 0), 3)
    >>> BALL
    ((3, 3, 3, 3), (((0, 0), (1, 0)), ((0, 1), (3, 0)), ((0, 2), (2, 0)), ((1, 1), (2, 2)), ((1, 2), (3, 1)), ((2, 1), (3, 2))))
    >>> [ball_of(3, 3) == form(BALL), len(ball_of(5, 3)[0]), ring_fault(BALL, ((0, 0), (0, 1), (0, 2))), ring_fault(BALL, ((0, 0), (0, 1))), ring_fault(BALL, ((0, 0), (1, 0)))]
    [True, 12, None, ('side', 0), ('back', 0)]
    >>> halves(BALL, ((0, 0), (0, 1), (0, 2)))
    ((((3,), ()), (0, 0)), (((3, 3, 3), (((0, 1), (1, 2)), ((0, 2), (2, 1)), ((1, 1), (2, 2)))), (0, 0)))
    >>> glued(TRI, (0, 0), TRI, (0, 0), 3)
    raises NotGlued(number=0)
"""

DUALS = """
    >>> from whatrims.duals import dual
    >>> BLOCK = ((4, 4, 4, 4), (((0, 1), (1, 3)), ((0, 2), (3, 0)), ((1, 2), (2, 0)), ((2, 3), (3, 1))))
    >>> [dual(BLOCK), dual(TRI), form(dual(BALL)) == form(BALL), form(dual(ball_of(4, 3))) == ball_of(3, 4)]
    [((4,), ()), None, True, True]
"""

DEEDS = """
    >>> from whatrims.deeds import after, deed_text, is_thing, read_deed, thing_text
    >>> TWO = ((4, 4), (((0, 1), (1, 3)),))
    >>> FIRST = after(after({}, ("gluing", "a", TWO)), ("rim", "w", "a", (0, 0)))
    >>> [FIRST["w"], thing_text(FIRST["a"]), thing_text(FIRST["w"]), is_thing(("word", (1, 1))), is_thing(("gluing", TWO))]
    [('word', (1, 2, 1, 1, 2, 1)), '4 4;0.1=1.3', '1 2 1 1 2 1', False, True]
    >>> [after({}, ("tile", "t", 5)), thing_text(after(FIRST, ("take", "b", "a", 1))["b"]), thing_text(after(FIRST, ("lay", "b", "a", (0, 0), 1, 3))["b"])]
    [{'t': ('gluing', ((5,), ()))}, '4', '4 4 3;0.0=2.0 0.1=1.3']
    >>> [deed_text(("lay", "b", "a", (0, 3), 1, 4)), read_deed("ring b a 4 4 0.0"), read_deed("word w 1 2 1"), read_deed("gluing a 4 4;0.1=1.3")]
    ['lay b a 0.3 1 4', ('ring', 'b', 'a', 4, 4, (0, 0)), ('word', 'w', (1, 2, 1)), ('gluing', 'a', ((4, 4), (((0, 1), (1, 3)),)))]
    >>> after(FIRST, ("mirror", "b", "c"))
    raises UnknownName(name='c')
    >>> after(FIRST, ("lay", "b", "a", (0, 1), 1, 4))
    raises BadDeed()
"""

HOUSE = """
    >>> from whatrims.house import House
    >>> HOUSE = House()
    >>> [HOUSE.do(("tile", "a", 4)), HOUSE.do(("word", "w", (1, 1, 1, 1))), HOUSE.branch("side"), HOUSE.do(("word", "w", (1, 2, 1, 1, 2, 1)))]
    [1, 2, None, 3]
    >>> [HOUSE.keep("k", ("size", 4, 4, "w")), HOUSE.undo(), HOUSE.today("k"), HOUSE.paper("k"), HOUSE.redo(), HOUSE.today("k")]
    [('size', 2, 0), 2, ('answer', ('size', 1, 0)), (('size', 4, 4, 'w'), ('size', 2, 0), 3), 3, None]
    >>> [HOUSE.go("side"), HOUSE.ask(("size", 4, 4, "w")), HOUSE.do(("mirror", "b", "a")), HOUSE.go("main"), HOUSE.common(3, 4), HOUSE.merge("side"), HOUSE.elders(5)]
    [2, ('size', 1, 0), 4, 3, 2, 5, (3, 4)]
    >>> [HOUSE.shelf()["b"], HOUSE.ask(("kind", 4, 4, "b")), HOUSE.ask(("like", "a", "b"))[0], HOUSE.present(), HOUSE.branches()]
    [('gluing', ((4,), ())), None, 'like', 'main', ['main', 'side']]
    >>> HOUSE.ask(("like", "a", "w"))
    raises BadDeed()
"""

CONSOLE = """
    >>> from whatrims.console import Console
    >>> CONSOLE = Console()
    >>> [CONSOLE.say("tile a 4"), CONSOLE.say("lay b a 0.1 1 4"), CONSOLE.say("show b"), CONSOLE.say("rim b 0.0"), CONSOLE.say("counts b"), CONSOLE.say("kind 4 4 b")]
    ['1', '2', '4 4;0.1=1.0', '1 2 1 1 2 1', '2 7 6 0', 'yes']
    >>> [CONSOLE.say("rim w b 0.0"), CONSOLE.say("size 4 4 w"), CONSOLE.say("keep k fill 4 4 w"), CONSOLE.say("today k"), CONSOLE.say("layings b"), CONSOLE.say("show")]
    ['3', '2', 'disc', 'right', '2', 'a b w']
    >>> [CONSOLE.say("rim b 0.1"), CONSOLE.say("like a b"), CONSOLE.say("size 4 4 b"), CONSOLE.say("size 2 4 w"), CONSOLE.say("undo"), CONSOLE.say("stay")]
    ['refused', 'sizes', 'refused', 'what', '2', 'what']
"""


class Examples(unittest.TestCase):
    def test_errors(self):
        run_examples(self, ERRORS)

    def test_gluings(self):
        run_examples(self, GLUINGS)

    def test_texts(self):
        # The examples of texts go on with the names of those of gluings.
        run_examples(self, GLUINGS + TEXTS.lstrip("\n"))

    def test_corners(self):
        run_examples(self, CORNERS)

    def test_rims(self):
        run_examples(self, CORNERS + RIMS.lstrip("\n"))

    def test_pieces(self):
        run_examples(self, CORNERS + RIMS.lstrip("\n") + PIECES.lstrip("\n"))

    def test_sums(self):
        run_examples(self, SUMS)

    def test_drawn(self):
        run_examples(self, DRAWN)

    def test_laying(self):
        run_examples(self, LAYING)

    def test_taking(self):
        run_examples(self, LAYING + TAKING.lstrip("\n"))

    def test_forms(self):
        run_examples(self, FORMS)

    def test_discs(self):
        run_examples(self, FORMS + DISCS.lstrip("\n"))

    def test_rings(self):
        run_examples(self, RINGS)

    def test_ringcounts(self):
        run_examples(self, RINGCOUNTS)

    def test_places(self):
        run_examples(self, PLACES)

    def test_over(self):
        run_examples(self, OVER)

    def test_ways(self):
        run_examples(self, WAYS)

    def test_filling(self):
        run_examples(self, WAYS + FILLING.lstrip("\n"))

    def test_coils(self):
        run_examples(self, COILS)

    def test_odd(self):
        run_examples(self, ODD)

    def test_closed(self):
        # The examples of closed and duals go on with the form of an earlier one.
        run_examples(self, FORMS + CLOSED.lstrip("\n"))

    def test_duals(self):
        run_examples(self, FORMS + CLOSED.lstrip("\n") + DUALS.lstrip("\n"))

    def test_deeds(self):
        run_examples(self, DEEDS)

    def test_house(self):
        run_examples(self, HOUSE)

    def test_console(self):
        run_examples(self, CONSOLE)


if __name__ == "__main__":
    unittest.main()
