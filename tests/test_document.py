"""All examples of the document, as written there and in its order: names that were set once stay set."""

import unittest

from tests.examples import check_examples, parted

EXAMPLES = r"""
    >>> from everystart.fractions import compared, fraction_text, lowest, read_fraction
    >>> lowest(10, 4), lowest(2, -6), lowest(0, 7), compared((2, 5), (1, 2)), compared((3, 7), (3, 7)), compared((0, 1), (-1, 9))
    ((5, 2), (-1, 3), (0, 1), -1, 0, 1)
    >>> lowest(3, 0)
    raises Unfit()
    >>> fraction_text((5, 2)), fraction_text((-4, 1)), fraction_text((0, 1)), read_fraction("-1/3"), read_fraction("12")
    ('5/2', '-4', '0', (-1, 3), (12, 1))
    >>> read_fraction("2/6")
    raises BadText()
    >>> read_fraction("4/1")
    raises BadText()
    >>> read_fraction("+1/2")
    raises BadText()
    >>> from everystart.dice import die_error, die_mean, least_side, side_share, sum_share
    >>> coin, odd, till = ("die", ((0, (1, 2)), (1, (1, 2)))), ("die", ((1, (1, 3)), (2, (2, 3)))), ("till", (1, 3))
    >>> [die_error(value) for value in (coin, odd, till, ("die", ((7, (1, 1)),)), ("die", ()), list(coin), ("die", [(0, (1, 1))]), ("till",), ("coin", (1, 2)), None)]
    [None, None, None, None, 'form', 'form', 'form', 'form', 'form', 'form']
    >>> [die_error(("till", share)) for share in ((1, 1), (0, 1), (2, 4), 1, (True, 2))]
    ['share', 'share', 'share', 'share', 'share']
    >>> [die_error(("die", sides)) for sides in (((0, (1, 2)), (10, (1, 2))), ((0, (1, 2)), (1, (0, 1))), ((1, (1, 2)), (0, (1, 2))), ((1, (1, 2)), (1, (1, 2))), ((0, (1, 2)), (1, (1, 3))))]
    [('side', 1), ('side', 1), ('order', 1), ('order', 1), 'sum']
    >>> [side_share(coin, number) for number in (0, 1, 2)], side_share(odd, 0), [side_share(till, number) for number in (0, 1, 2)]
    ([(1, 2), (1, 2), (0, 1)], (0, 1), [(1, 3), (2, 9), (4, 27)])
    >>> [die_mean(die) for die in (coin, odd, till)], [least_side(die) for die in (coin, odd, till)]
    ([(1, 2), (5, 3), (2, 1)], [0, 1, 0])
    >>> sum_share(coin, 2, 1), sum_share(odd, 2, 3), sum_share(till, 2, 1), sum_share(coin, 0, 0), sum_share(coin, 0, 1), sum_share(odd, 3, 2)
    ((1, 2), (4, 9), (4, 27), (1, 1), (0, 1), (0, 1))
    >>> from everystart.programs import is_test, names_error, program_error, put_behind, step_at, steps_error, ways, without
    >>> coin, till = ("die", ((0, (1, 2)), (1, (1, 2)))), ("till", (1, 3))
    >>> walk = (("x", "y"), (("throw", 0, coin), ("if", (0, "from", 1), (("add", 1, 2),), (("less", 1),))))
    >>> [names_error(value) for value in (("x", "y"), ("n",), (), ["x"], ("x", "If"), ("x", "or"), ("x", "y", "x"), ("x", "x", 5))]
    [None, None, 'form', 'form', ('name', 1), ('name', 1), ('twice', 2), ('name', 2)]
    >>> [is_test(2, value) for value in ((1, "below", 4), (0, "from", 1), (2, "from", 1), (0, "below", 5), (0, "above", 1), [0, "from", 1])]
    [True, True, False, False, False, False]
    >>> [steps_error(1, (("less", 0), step)) for step in (("set", 0, 21), ("add", 0, 0), ("less", 1), ("less", 0, 1), ("throw", 0, ("till", (1, 1))), ("sum", 0, coin, 1), ("seen", (0, "below", 5)), "less")]
    [('number', (1,)), ('number', (1,)), ('counter', (1,)), ('step', (1,)), ('die', (1,)), ('counter', (1,)), ('test', (1,)), ('step', (1,))]
    >>> [steps_error(1, (("either", (1, 2), (), no),)) for no in ((("less", True),), (("less", 0), ("skip",)), [("less", 0)], (("either", (2, 1), (("set", 0, -1),), ()),))]
    [('counter', (0, 1, 0)), ('step', (0, 1, 1)), ('step', (0,)), ('share', (0, 1, 0))]
    >>> steps_error(1, (("less", 0),) * 40), steps_error(1, (("less", 0),) * 41), steps_error(1, [("less", 0)])
    (None, ('many', ()), ('form', ()))
    >>> [program_error(value) for value in (walk, (("n",), ()), list(walk), ((), ()), (("x", "x"), 5), (("n",), (("less", 1),)))]
    [None, None, 'form', ('names', 'form'), ('names', ('twice', 1)), ('steps', ('counter', (0,)))]
    >>> ways(walk), step_at(walk, (1, 1, 0)), ways((("n",), ()))
    (((0,), (1,), (1, 0, 0), (1, 1, 0)), ('less', 1), ())
    >>> without(walk, (1, 0, 0)) == (("x", "y"), (("throw", 0, coin), ("if", (0, "from", 1), (), (("less", 1),)))), without(walk, (1,)) == (("x", "y"), (("throw", 0, coin),))
    (True, True)
    >>> put_behind((("a",), (("less", 0),)), (("n",), (("set", 0, 3),)))
    (('a',), (('less', 0), ('set', 0, 3)))
    >>> without(walk, (1, 0, 1))
    raises Unfit()
    >>> step_at(walk, (True,))
    raises Unfit()
    >>> put_behind(walk, (("n",), ()))
    raises Unfit()
    >>> from everystart.programtexts import program_text, read_program, read_steps, steps_text
    >>> program_text(walk), program_text((("n",), ()))
    ('x, y: x += die 1/2 0, 1/2 1; if x >= 1 {y += 2} else {y -= 1}', 'n: skip')
    >>> read_program("a, b: a += till 1/3 by b; either 1/4 {b := 0; seen a < 3} or {skip}") == (("a", "b"), (("sum", 0, till, 1), ("either", (1, 4), (("set", 1, 0), ("seen", (0, "below", 3))), ())))
    True
    >>> steps_text(("a",), (("less", 0), ("seen", (0, "from", 2)))), steps_text(("a",), ()), read_steps(("a", "b"), "b += 3")
    ('a -= 1; seen a >= 2', 'skip', (('add', 1, 3),))
    >>> read_program("x: x := 21")
    raises BadText()
    >>> read_program("x: y := 2")
    raises BadText()
    >>> read_program("x: x -= 2")
    raises BadText()
    >>> read_program("x: skip; skip")
    raises BadText()
    >>> read_program("x:  skip")
    raises BadText()
    >>> read_program("x: x += die 1/2 1, 1/2 0")
    raises BadText()
    >>> from everystart.figures import known_share, mean_of, outcomes
    >>> from everystart.runs import left_of, share_of
    >>> half, third = (1, 2), (1, 3)
    >>> coin, wait, rare = ("die", ((0, half), (1, half))), ("till", half), ("till", third)
    >>> pair = (("x", "y"), (("throw", 0, coin), ("sum", 1, coin, 0)))
    >>> [share_of(pair, (0, 0), end) for end in ((0, 0), (1, 0), (1, 1), (0, 1))], left_of(pair, (3, 4))
    ([(1, 2), (1, 4), (1, 4), (0, 1)], (1, 1))
    >>> misses = (("x",), (("throw", 0, rare),))
    >>> [share_of(misses, (0,), (number,)) for number in (0, 1, 2)], share_of(misses, (4,), (3,)), share_of(misses, (4,), (5,))
    ([(1, 3), (2, 9), (4, 27)], (0, 1), (2, 9))
    >>> heads = (("x", "y"), (("throw", 0, wait), ("sum", 1, coin, 0), ("set", 0, 0)))
    >>> share_of(heads, (0, 0), (0, 0)), share_of(heads, (0, 0), (0, 1)), share_of(heads, (1, 0), (0, 0)), left_of(heads, (5, 5))
    ((2, 3), (2, 9), (1, 3), (1, 1))
    >>> late = (("x",), (("throw", 0, wait), ("seen", (0, "from", 2))))
    >>> left_of(late, (0,)), left_of(late, (1,)), left_of(late, (2,)), share_of(late, (0,), (2,)), share_of(late, (0,), (1,))
    ((1, 4), (1, 2), (1, 1), (1, 8), (0, 1))
    >>> fives = (("x",), (("throw", 0, rare), ("if", (0, "below", 1), (), (("set", 0, 5),))))
    >>> share_of(fives, (0,), (0,)), share_of(fives, (0,), (5,)), share_of(fives, (0,), (1,)), share_of(fives, (1,), (5,))
    ((1, 3), (2, 3), (0, 1), (1, 1))
    >>> double, twin = ("sum", 0, coin, 0), ("sum", 1, coin, 1)
    >>> share_of((("x",), (double,) * 4), (20,), (20,)) == (1, 2 ** 80), left_of((("x",), (double,) * 4), (20,))
    (True, (1, 1))
    >>> left_of((("x", "y"), (double, twin) * 2), (20, 20))
    raises TooMany(2000)
    >>> known_share(late, (0,), (2,)), known_share(late, (0,), (3,)), known_share(late, (0,), (1,)), mean_of(late, (0,), 0), mean_of(late, (2,), 0)
    ((1, 2), (1, 4), (0, 1), (3, 1), (3, 1))
    >>> mean_of(pair, (0, 0), 0), mean_of(pair, (0, 0), 1), mean_of(pair, (3, 4), 1), mean_of(misses, (4,), 0), mean_of(heads, (0, 0), 1)
    ((1, 2), (1, 4), (23, 4), (6, 1), (1, 2))
    >>> known_share((("x",), (("seen", (0, "from", 3)),)), (2,), (2,))
    raises Never()
    >>> mean_of((("x", "y"), (double, twin) * 2 + (("seen", (0, "below", 1)),)), (20, 20), 0)
    raises TooMany(2000)
    >>> outcomes(pair, (0, 0)), outcomes((("x",), (("less", 0), ("seen", (0, "below", 2)))), (5,))
    ((((0, 0), (1, 2)), ((1, 0), (1, 4)), ((1, 1), (1, 4))), ())
    >>> outcomes((("x",), (("either", third, (("set", 0, 2),), (("add", 0, 1), ("less", 0))), ("less", 0))), (2,))
    (((1,), (1, 1)),)
    >>> outcomes((("x",), (("throw", 0, coin), ("throw", 0, coin), ("if", (0, "from", 2), (("set", 0, 0),), ()))), (0,))
    (((0,), (1, 2)), ((1,), (1, 2)))
    >>> outcomes((("x",), (("sum", 0, ("die", ((9, (1, 1)),)), 0),) * 40), (1,)) == (((10 ** 40,), (1, 1)),)
    True
    >>> outcomes(misses, (0,))
    raises Unfit()
    >>> from everystart.polynomials import added, multiplied, polynomial_error, put_in
    >>> unit, x, u = (((0, 0), (1, 1)),), (((1, 0), (1, 1)),), (((0, 1), (1, 1)),)
    >>> mid = (((0, 0), (1, 2)), ((1, 0), (1, 2)))
    >>> added(unit, x), added(mid, (((0, 0), (-1, 2)),)), multiplied(mid, mid), multiplied(x, ())
    ((((0, 0), (1, 1)), ((1, 0), (1, 1))), (((1, 0), (1, 2)),), (((0, 0), (1, 4)), ((1, 0), (1, 2)), ((2, 0), (1, 4))), ())
    >>> put_in(2, mid, 0, u), put_in(2, mid, 0, unit), put_in(2, multiplied(x, x), 0, mid)
    ((((0, 0), (1, 2)), ((0, 1), (1, 2))), (((0, 0), (1, 1)),), (((0, 0), (1, 4)), ((1, 0), (1, 2)), ((2, 0), (1, 4))))
    >>> [polynomial_error(2, value) for value in ((), mid, mid[::-1], mid + mid, [mid[0]], (((0, 0), (0, 1)),), (((0,), (1, 1)),), (((0, -1), (1, 1)),))]
    [None, None, ('order', 1), ('order', 2), 'form', ('term', 0), ('term', 0), ('term', 0)]
    >>> from everystart.closedforms import coefficient, form_error, same_series, together
    >>> through = (((0, 0), (1, 1)), ((1, 1), (-1, 1)))
    >>> stay, fair = ((unit, (through,)),), ((mid, (through,)),)
    >>> coefficient(2, stay, (3, 3)), coefficient(2, stay, (3, 2)), coefficient(2, fair, (3, 3)), coefficient(2, fair, (4, 3)), coefficient(2, (), (0, 0))
    ((1, 1), (0, 1), (1, 2), (1, 2), (0, 1))
    >>> geo = (((0, 0), (1, 1)), ((0, 1), (-1, 1)))
    >>> [coefficient(2, ((unit, (geo, geo)),), (0, power)) for power in (0, 1, 2, 9)]
    [(1, 1), (2, 1), (3, 1), (10, 1)]
    >>> [form_error(2, value) for value in (stay, (), fair + stay, [stay], (unit,), ((mid, (unit,)),), (((), ()),), ((unit, (geo, through)),), ((unit, (through, geo)),))]
    [None, None, None, 'form', ('part', 0), ('below', 0), ('above', 0), None, ('order', 0)]
    >>> same_series(2, fair, fair), same_series(2, fair, stay), same_series(2, stay + ((mid, ()),), stay)
    (True, False, False)
    >>> shrunk = ((added(unit, (((1, 1), (-1, 1)),)), (geo, through)),)
    >>> same_series(2, shrunk, ((unit, (geo,)),)), len(together(2, fair + stay)), together(2, stay + (((((0, 0), (-1, 1)),), (through,)),))
    (True, 1, ())
    >>> from everystart.effects import effect, effect_error, left_form, mean_form
    >>> flip = (("x",), (("throw", 0, ("die", ((0, (1, 2)), (1, (1, 2))))),))
    >>> nothing, down = (("x",), ()), (("x",), (("less", 0),))
    >>> effect_error(flip, fair), effect_error(nothing, stay), effect_error(nothing, fair), effect_error(flip, None)
    (None, None, ('share', (0,), (0,)), 'form')
    >>> effect_error(down, effect(down)), coefficient(2, effect(down), (0, 0)), coefficient(2, effect(down), (0, 1)), coefficient(2, effect(down), (7, 8)), coefficient(2, effect(down), (8, 8))
    (None, (1, 1), (1, 1), (1, 1), (0, 1))
    >>> wait = (("x",), (("set", 0, 0), ("throw", 0, ("till", (1, 3)))))
    >>> [coefficient(2, effect(wait), (end, start)) for end, start in ((0, 0), (0, 5), (1, 5), (2, 1))]
    [(1, 3), (1, 3), (2, 9), (4, 27)]
    >>> from everystart.alikeness import alike
    >>> up = (("x",), (("add", 0, 1),))
    >>> alike((("x",), (("add", 0, 1), ("less", 0))), nothing), alike((("x",), (("less", 0), ("add", 0, 1))), nothing), alike(down, nothing)
    (None, ((0,), (0,)), ((1,), (0,)))
    >>> alike(flip, (("y",), (("either", (1, 2), (), (("add", 0, 1),)),))), alike(flip, up)
    (None, ((0,), (0,)))
    >>> twice = (("x",), (("throw", 0, ("die", ((0, (1, 4)), (1, (1, 2)), (2, (1, 4))))),))
    >>> alike(twice, (("x",), flip[1] + flip[1])), alike(twice, (("x",), (("if", (0, "from", 2), twice[1], flip[1] + up[1]),)))
    (None, ((0,), (0,)))
    >>> alike(nothing, (("x", "y"), ()))
    raises Unfit()
    >>> [coefficient(1, left_form(flip), (start,)) for start in (0, 4)], [coefficient(1, mean_form(flip, 0), (start,)) for start in (0, 4)], [coefficient(1, mean_form(down, 0), (start,)) for start in (0, 1, 4)]
    ([(1, 1), (1, 1)], [(1, 2), (9, 2)], [(0, 1), (0, 1), (3, 1)])
    >>> [coefficient(1, left_form((("x",), (("seen", (0, "below", 2)),))), (start,)) for start in (0, 1, 2, 9)]
    [(1, 1), (1, 1), (0, 1), (0, 1)]
    >>> from everystart.alikeness import hangs
    >>> pour = (("x", "y"), (("sum", 0, ("die", ((0, (1, 2)), (1, (1, 2)))), 1), ("set", 1, 0)))
    >>> hangs(pour, 0, 0), hangs(pour, 0, 1), hangs(pour, 1, 0), hangs(pour, 1, 1), hangs(wait, 0, 0), hangs(down, 0, 0)
    (((1, 0), 0), ((0, 1), 0), None, None, None, ((2,), 0))
    >>> from everystart.loops import ended, inside, keeps, loop_error, round_ahead
    >>> coin, some = ("die", ((0, (1, 2)), (1, (1, 2)))), (0, "from", 1)
    >>> counting = (("x", "y"), some, (("less", 0), ("throw", 1, coin)))
    >>> waiting = (("x", "y"), some, (("either", (1, 2), (("set", 0, 0),), (("add", 1, 1),)),))
    >>> endless, walking = (("x", "y"), some, (("add", 1, 1),)), (("x",), some, (("either", (1, 2), (("add", 0, 1),), (("less", 0),)),))
    >>> [loop_error(value) for value in (counting, waiting, endless, walking, counting[:2], list(counting))]
    [None, None, None, None, 'form', 'form']
    >>> ended(counting, (2, 0), 2, (0, 1)), ended(counting, (2, 0), 1, (0, 1)), inside(counting, (2, 0), 1), inside(counting, (2, 0), 2)
    ((1, 2), (0, 1), (1, 1), (0, 1))
    >>> ended(waiting, (1, 0), 3, (0, 1)), ended(waiting, (1, 0), 1, (0, 1)), inside(waiting, (1, 0), 3), ended(waiting, (0, 5), 0, (0, 5))
    ((1, 4), (0, 1), (1, 8), (1, 1))
    >>> inside(endless, (1, 0), 12), ended(endless, (0, 3), 4, (0, 3)), inside(walking, (1,), 2), ended(walking, (1,), 3, (0,))
    ((1, 1), (1, 1), (1, 2), (5, 8))
    >>> counted = (("x", "y"), (("sum", 1, coin, 0), ("set", 0, 0)))
    >>> waited = (("x", "y"), (("if", some, (("throw", 1, ("till", (1, 2))), ("set", 0, 0)), ()),))
    >>> round_ahead(counting, counted)
    (('x', 'y'), (('if', (0, 'from', 1), (('less', 0), ('throw', 1, ('die', ((0, (1, 2)), (1, (1, 2))))), ('sum', 1, ('die', ((0, (1, 2)), (1, (1, 2)))), 0), ('set', 0, 0)), ()),))
    >>> rarer = (("x", "y"), (("if", some, (("throw", 1, ("till", (1, 3))), ("set", 0, 0)), ()),))
    >>> cleared = (("x", "y"), (("if", some, (("set", 0, 0), ("set", 1, 0)), ()),))
    >>> [keeps(counting, counted), keeps(waiting, waited), keeps(waiting, rarer), keeps(endless, cleared), keeps(walking, (("x",), (("set", 0, 0),)))]
    [True, True, False, True, True]
    >>> keeps(walking, counted)
    raises Unfit()
    >>> from everystart.ending import falls, measure_error, rise, verdict
    >>> by_x, none = ((1, 1), (0, 1)), ((0, 1), (0, 1))
    >>> [measure_error(counting, value) for value in (by_x, none, ((1, 1),), [(1, 1), (0, 1)], ((1, 1), (-1, 2)), ((2, 2), (0, 1)), (1, 0))]
    [None, None, 'form', 'form', ('weight', 1), ('weight', 0), ('weight', 0)]
    >>> rise(counting[2], by_x, (1, 0), None), rise(counting[2], by_x, (0, 0), None), rise(counting[2], ((1, 1), (3, 1)), (1, 4), None)
    (((-1, 1), (0, 0)), ((0, 1), (0, 0)), ((1, 2), (0, 4)))
    >>> rise((("sum", 1, coin, 0), ("add", 0, 2)), by_x, (1, 0), None), rise((("sum", 0, coin, 1),), by_x, (1, 0), None), rise((("set", 0, 2),), by_x, (5, 0), None)
    (((2, 1), (3, 0)), (None, (1, 0)), ((-3, 1), (2, 0)))
    >>> branching = (("if", (0, "below", 2), (("add", 0, 3),), (("less", 0),)),)
    >>> rise(branching, by_x, (0, 0), None), rise(branching, by_x, (2, 0), None), rise(branching, by_x, (1, 0), (0, 4)), rise(branching, by_x, (3, 0), (0, 4))
    (((3, 1), (1, 0)), ((-1, 1), (1, 0)), ((1, 1), (0, 0)), ((-3, 1), (0, 0)))
    >>> rise((("throw", 0, coin), ("throw", 0, coin)), by_x, (2, 0), (0, 4)), rise((("throw", 0, ("till", (1, 2))),), by_x, (2, 0), (0, 4))
    (((-1, 1), (0, 0)), ((-3, 4), (0, 0)))
    >>> rising = (("x", "y"), (0, "below", 3), (("throw", 0, coin), ("add", 1, 1)))
    >>> falls(counting, by_x), falls(waiting, by_x), falls(waiting, none), falls(endless, by_x), falls(walking, ((1, 1),)), falls(rising, by_x)
    ((-1, 1), (-1, 2), (0, 1), (0, 1), (0, 1), (-1, 2))
    >>> [verdict(loop, told, by_x) for loop, told in ((counting, counted), (waiting, waited), (waiting, rarer), (endless, cleared), (endless, counted))]
    ['does', 'does', 'other', 'at most', 'unsure']
    >>> verdict(waiting, waited, none), verdict(walking, (("x",), (("set", 0, 0),)), ((1, 1),))
    ('at most', 'at most')
    >>> risen = (("x", "y"), (("if", (0, "below", 3), (("set", 0, 3),), ()),))
    >>> verdict((("x", "y"), (0, "below", 3), (("throw", 0, coin),)), risen, by_x), verdict(rising, risen, by_x)
    ('does', 'other')
    >>> from everystart.leaning import commute, free, lean, needed, needless
    >>> coin = ("die", ((0, (1, 2)), (1, (1, 2))))
    >>> over, pair = (("x",), (("add", 0, 1), ("set", 0, 5))), (("x",), (("add", 0, 1), ("less", 0)))
    >>> guard = (("x", "y"), (("set", 0, 1), ("if", (0, "below", 1), (("add", 1, 1),), ()), ("set", 0, 2)))
    >>> needless(over), needless(guard), needless(pair), needless((("x",), ()))
    (((0,),), ((1,), (1, 0, 0)), (), ())
    >>> lean(over), lean(guard), lean(pair) == pair
    ((('x',), (('set', 0, 5),)), (('x', 'y'), (('set', 0, 2),)), True)
    >>> needed(over, (0,)), needed(guard, (0,)), needed(guard, (2,)), needed(guard, (1, 0, 0)), needed(pair, (1,))
    (None, ((0, 0), (2, 0)), ((0, 0), (1, 0)), None, ((0,), (0,)))
    >>> needless((("x",), (("seen", (0, "from", 1)), ("seen", (0, "from", 2))))), lean((("x",), (("set", 0, 0), ("set", 0, 0))))
    (((0,),), (('x',), (('set', 0, 0),)))
    >>> needed(guard, (1, 1, 0))
    raises Unfit()
    >>> needed(guard, (True,))
    raises Unfit()
    >>> up, down, three = (("x",), (("add", 0, 1),)), (("x",), (("less", 0),)), (("n",), (("set", 0, 3),))
    >>> pour, grow = (("x", "y"), (("sum", 1, coin, 0),)), (("x", "y"), (("add", 0, 1),))
    >>> commute(up, (("x",), (("add", 0, 2),))), commute(up, down), commute(down, up), commute(up, three), commute(three, three)
    (None, ((0,), (0,)), ((0,), (0,)), ((0,), (3,)), None)
    >>> commute(pour, grow), commute(grow, (("x", "y"), (("throw", 1, coin),)))
    (((0, 0), (1, 0)), None)
    >>> commute(up, pour)
    raises Unfit()
    >>> free((("x", "y"), (("add", 0, 1), ("add", 1, 1), ("set", 0, 3)))), free((("x",), (("set", 0, 5), ("less", 0), ("add", 0, 1)))), free(pair), free(up)
    ((0, 1), (1,), (), ())
    >>> from everystart.books import book_error, faults, gone, put_part, settled, uses
    >>> coin, some, by_x = ("die", ((0, (1, 2)), (1, (1, 2)))), (0, "from", 1), ((1, 1), (0, 1))
    >>> flip = ("program", "flip", (("throw", 1, coin),))
    >>> pour = ("loop", "pour", some, (("less", 0), ("do", "flip")), (("sum", 1, coin, 0), ("set", 0, 0)), by_x)
    >>> both = ("program", "both", (("do", "pour"), ("add", 0, 2), ("do", "pour")))
    >>> wait = ("loop", "wait", some, (("either", (1, 2), (("set", 0, 0),), (("add", 1, 1),)),), (("if", some, (("throw", 1, ("till", (1, 2))), ("set", 0, 0)), ()),), by_x)
    >>> book = (("x", "y"), (flip, pour, both, wait))
    >>> [book_error(value) for value in (book, (("x", "y"), ()), (("x", "y"), (pour,)), (("x", "x"), (flip,)), (("x",), (flip,)), (("x", "y"), (flip, flip)), (("x", "y"), [flip]))]
    [None, None, ('part', 0, ('loop', ('program', ('steps', ('step', (0, 0, 1)))))), ('names', ('twice', 1)), ('part', 0, ('steps', ('counter', (0,)))), ('part', 1, 'taken'), 'form']
    >>> [book_error((("x", "y"), (flip, part))) for part in (("program", "do", ()), ("program", "a"), ("loop", "a", (0, "from", 5), (), (), by_x), ("loop", "a", some, (), (("do", "a"),), by_x), ("loop", "a", some, (), (), ((1, 1),)))]
    [('part', 1, 'name'), ('part', 1, 'form'), ('part', 1, ('loop', ('program', ('steps', ('test', (0,)))))), ('part', 1, ('told', ('step', (0,)))), ('part', 1, ('measure', 'form'))]
    >>> put_part((("x", "y"), (flip,)), pour) == (("x", "y"), (flip, pour))
    True
    >>> put_part((("x", "y"), ()), pour)
    raises BadBook(('part', 0, ('loop', ('program', ('steps', ('step', (0, 0, 1)))))))
    >>> settled(book, "both")
    (('x', 'y'), (('sum', 1, ('die', ((0, (1, 2)), (1, (1, 2)))), 0), ('set', 0, 0), ('add', 0, 2), ('sum', 1, ('die', ((0, (1, 2)), (1, (1, 2)))), 0), ('set', 0, 0)))
    >>> settled(book, "flip") == (("x", "y"), flip[2]), settled(book, "wait") == (("x", "y"), wait[4]), uses(book, "both"), uses(book, "flip")
    (True, True, ('flip', 'pour'), ())
    >>> settled(book, "drain")
    raises NoName('drain')
    >>> faults(book), faults((("x", "y"), (flip,)))
    ((), ())
    >>> less = ("loop", "less", some, (("less", 0), ("do", "flip")), (("set", 0, 0),), by_x)
    >>> slack = ("loop", "slack", some, (("less", 0), ("do", "flip")), (("sum", 1, coin, 0), ("set", 0, 0)), ((0, 1), (0, 1)))
    >>> faults((("x", "y"), (flip, less, slack)))
    (('less', 'other', ((1, 0), (0, 0))), ('slack', 'at most', None))
    >>> gone(book, "pour", (2, 0), 2), gone(book, "pour", (2, 0), 1), gone(book, "pour", (0, 3), 0)
    (((((0, 0), (1, 4)), ((0, 1), (1, 2)), ((0, 2), (1, 4))), (0, 1)), ((), (1, 1)), ((((0, 3), (1, 1)),), (0, 1)))
    >>> gone(book, "both", (1, 0), 2), gone(book, "both", (1, 0), 1)
    (((((0, 0), (1, 8)), ((0, 1), (3, 8)), ((0, 2), (3, 8)), ((0, 3), (1, 8))), (0, 1)), ((), (1, 1)))
    >>> gone(book, "wait", (1, 0), 2)
    ((((0, 0), (1, 2)), ((0, 1), (1, 4))), (1, 4))
    >>> gone((("x", "y"), (("program", "a", (("throw", 0, ("till", (1, 2))),)),)), "a", (0, 0), 1)
    raises Unfit()
    >>> from everystart.booktexts import book_text, read_book
    >>> book_text((("x", "y"), (flip, pour)))
    'x, y:\nprogram flip {y += die 1/2 0, 1/2 1}\nloop pour while x >= 1 {x -= 1; do flip} as {y += die 1/2 0, 1/2 1 by x; x := 0} by 1, 0'
    >>> book_text((("n",), ())), read_book("n:"), read_book(book_text(book)) == book
    ('n:', (('n',), ()), True)
    >>> read_book("n:\nprogram a {do a}")
    raises BadText()
    >>> read_book("n: \nprogram a {skip}")
    raises BadText()
    >>> from everystart.desks import Desk, desk_behind
    >>> toss = ("die", ((0, (1, 2)), (1, (1, 2))))
    >>> d = Desk(("x", "y"))
    >>> [d.put(0, ("sum", 1, toss, 0)), d.put(0, ("throw", 0, toss)), d.steps == (("throw", 0, toss), ("sum", 1, toss, 0)), d.put(2, ("set", 1, 5)), d.drop(2), d.swap(0), d.version]
    [1, 2, True, 3, 4, 5, 5]
    >>> [d.steps[0][0], d.undo(), d.steps[0][0], d.redo(), d.at(2)[1][0][0], d.at(0), d.log[3:], desk_behind(("x", "y"), d.log) == d, d == 5]
    ['sum', 4, 'throw', 5, 'throw', (('x', 'y'), ()), (('drop', (2,)), ('swap', (0,))), True, False]
    >>> d.put(3, ("less", 0))
    raises Unfit()
    >>> d.swap(1)
    raises Unfit()
    >>> d.drop(True)
    raises Unfit()
    >>> d.at(6)
    raises NoVersion(6)
    >>> desk_behind(("x", "y"), (("put", (0, ("less", 1))), ("drop", (1,))))
    raises BadLog(1)
    >>> e = desk_behind(("x", "y"), d.log[:2])
    >>> [e.share((0, 0), (0, 0)), e.share((0, 0), (1, 1)), e.share((2, 1), (3, 2)), e.mean((0, 0), 1), d.share((0, 0), (1, 1)), d.mean((0, 0), 1)]
    [(1, 2), (1, 4), (3, 16), (1, 4), (0, 1), (0, 1)]
    >>> [d.parting(2), d.parting(5), e.alike(d.program), e.alike(e.program)]
    [((0, 0), (1, 0)), None, ((0, 0), (1, 0)), None]
    >>> [e.put(2, ("seen", (0, "from", 1))), e.left((0, 0)), e.known((0, 0), (1, 1)), e.put(0, ("set", 0, 0)), e.left((7, 0))]
    [3, (1, 2), (1, 2), 4, (1, 2)]
    >>> [e.put(1, ("set", 0, 0)), e.parting(4), len(e.steps), len(e.lean()[1]), e.parting(3)]
    [5, None, 5, 4, ((1, 0), (2, 0))]
    >>> e.share((0,), (1, 1))
    raises Unfit()
    >>> e.alike((("x",), ()))
    raises Unfit()
    >>> e.mean((0, 0), 2)
    raises Unfit()
    >>> from everystart.shells import Shell
    >>> s = Shell()
    >>> [s.say(line) for line in ("program", "new x, y", "put 0 x += die 1/2 0, 1/2 1", "put 1 y += die 1/2 0, 1/2 1 by x", "program", "share 0,0 1,1", "mean 2,1 y")]
    ['no desk', 'version 0', 'version 1', 'version 2', 'x, y: x += die 1/2 0, 1/2 1; y += die 1/2 0, 1/2 1 by x', '1/4', '9/4']
    >>> [s.say(line) for line in ("swap 0", "parting 2", "parting 3", "alike a, b: skip", "lean", "undo", "put 2 seen x >= 1", "left 0,0", "known 0,0 1,1")]
    ['version 3', 'parted 0,0 1,0', 'alike', 'parted 0,0 0,0', 'x, y: y += die 1/2 0, 1/2 1 by x; x += die 1/2 0, 1/2 1', 'version 2', 'version 3', '1/2', '1/2']
    >>> [s.say(line) for line in ("share 0 1,1", "mean 0,0 z", "put 9 skip", "put 9 x -= 1", "new 1", "drop 03", "undo 1", "share 0, 0 1,1", 5)]
    ['error Unfit', 'error Unfit', 'error BadText', 'error Unfit', 'error BadText', 'what', 'what', 'what', 'what']
"""


class DocumentTest(unittest.TestCase):
    def test_examples(self):
        self.assertGreater(len(parted(EXAMPLES)), 190)
        check_examples(self, EXAMPLES)


if __name__ == "__main__":
    unittest.main()
