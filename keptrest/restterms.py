"""The terms with which turned programs do what keep and wind do.

names are the numbers of w, in whose box the open winds stand as a list, of above and of go. new gives new numbers.
"""

from keptrest.emitter import call, function, sourced, var

NO = ("const", False)


def prim(name, *atoms):
    return ("prim", name, atoms)


def lets(bound, body):
    """A body within lets of pairs (NUMBER, TERM), the first one outermost."""
    for number, term in reversed(bound):
        body = ("let", number, term, body)
    return body


def keep_term(place, atoms, rest, names, new):
    """What a keep of an atom does, at a place, with the number of its rest."""
    winds, _, go = names
    h, e, i, v, g = new(5)
    enter = function((i, v), lets([(g, var(go))], call(g, var(h), var(rest), var(v))))
    called = sourced(place, ("call", atoms[0], (var(rest), var(e))))
    return lets([(h, var(winds)), (e, enter)], called)


def handing_on(place, atom, new):
    """A function that hands its rest to an atom."""
    k = new(1)[0]
    return function((k,), sourced(place, ("call", atom, (var(k),))))


def wind_term(place, atoms, rest, names, new):
    """What a wind of three atoms does, at a place, with the number of its rest."""
    before, body, after = atoms
    into, out, c1, x = new(4)
    inside = function((x,), inside_wind(place, body, (into, out, rest), names[0], new))
    bound = [(into, handing_on(place, before, new)), (out, handing_on(place, after, new)), (c1, inside)]
    return lets(bound, call(into, var(c1)))


def inside_wind(place, body, told, winds, new):
    """What a wind does when its BEFORE has ended: it is put into w, and BODY is called."""
    into, out, rest = told
    h, q, z, s, c2 = new(5)
    bound = [(h, var(winds)), (q, prim("pair", var(into), var(out))), (z, prim("pair", var(q), var(h))),
             (s, ("set", winds, var(z))), (c2, behind_wind(out, rest, winds, new))]
    return lets(bound, sourced(place, ("call", body, (var(c2),))))


def behind_wind(out, rest, winds, new):
    """The function that a wind's BODY goes on with: the wind is taken off w, and AFTER is called."""
    y, h, r, s, c3, x = new(6)
    last = function((x,), call(rest, var(y)))
    bound = [(h, var(winds)), (r, prim("second", var(h))), (s, ("set", winds, var(r))), (c3, last)]
    return function((y,), lets(bound, call(out, var(c3))))


def above_term(above, new):
    """The function that hands on the wind in the list x whose REST is the list o, or False."""
    k, x, o, t0, r, t, f = new(7)
    further = lets([(f, var(above))], call(f, var(k), var(r), var(o)))
    looked = lets([(r, prim("second", var(x))), (t, prim("same", var(r), var(o)))],
                  ("if", var(t), call(k, var(x)), further))
    whole = lets([(t0, prim("same", var(x), ("const", ())))], ("if", var(t0), call(k, NO), looked))
    return function((k, x, o), whole)


def go_term(names, new):
    """The function that leaves and goes into winds until w is h, and then gives v to the rest j."""
    winds, above, _ = names
    h, j, v, o, t, d, z, f = new(8)
    goal = (h, j, v)
    found = function((z,), ("if", var(z), going_in(goal, z, names, new), going_out(goal, o, names, new)))
    searched = lets([(d, found), (f, var(above))], call(f, var(d), var(h), var(o)))
    bound = [(o, var(winds)), (t, prim("same", var(o), var(h)))]
    return function(goal, lets(bound, ("if", var(t), call(j, var(v)), searched)))


def again(goal, go, new):
    """Calls go with the same goal once more."""
    g = new(1)[0]
    atoms = [var(number) for number in goal]
    return lets([(g, var(go))], call(g, *atoms))


def going_in(goal, z, names, new):
    """The BEFORE of the wind z is called, and then it is put into w."""
    winds, _, go = names
    q, b, d, x, s = new(5)
    behind = function((x,), lets([(s, ("set", winds, var(z)))], again(goal, go, new)))
    return lets([(q, prim("first", var(z))), (b, prim("first", var(q))), (d, behind)], call(b, var(d)))


def going_out(goal, o, names, new):
    """The newest wind of the list o is taken off w, and then its AFTER is called."""
    winds, _, go = names
    q, a, r, s, d, x = new(6)
    bound = [(q, prim("first", var(o))), (a, prim("second", var(q))), (r, prim("second", var(o))),
             (s, ("set", winds, var(r))), (d, function((x,), again(goal, go, new)))]
    return lets(bound, call(a, var(d)))


def prelude(names, new):
    """The pairs (NUMBER, TERM) of the lets that are put ahead of a program with keep or wind."""
    winds, above, go = names
    ab, s0, gg, s1 = new(4)
    return [(winds, ("const", ())), (above, NO), (go, NO), (ab, above_term(above, new)),
            (s0, ("set", above, var(ab))), (gg, go_term(names, new)), (s1, ("set", go, var(gg)))]
