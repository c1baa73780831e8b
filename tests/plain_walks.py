"""Walks and faults of codes once more, slowly and straight from the words of the document.

A word is ("word", CONSTANT) or a sign; so True and 1 are two. A frame is (KIND, p, j, done words, dict of names).
"""

from keptrest.core import children, places_of, term_at
from keptrest.names import boxed_numbers, free_numbers
from keptrest.prims import do_prim


class Fault(Exception):
    def __init__(self, word):
        self.word = word


def const(c):
    return ("word", type(c).__name__, c)


def is_const(word):
    return word[0] == "word"


class Program:
    def __init__(self, program):
        self.program = program
        self.boxed = boxed_numbers(program)
        self.fns = [p for p in places_of(program) if term_at(program, p)[0] == "fn"]
        self.sure = {}
        for p in places_of(program):
            term = self.at(p)
            if term[0] == "let" and term[2][0] == "fn" and term[1] not in self.boxed:
                self.sure[term[1]] = p + (0,)

    def at(self, p):
        return term_at(self.program, p)

    def free(self, *places):
        return sorted({n for p in places for n in free_numbers(self.at(p))})

    def frame_numbers(self, kind, p, j):
        if kind == "if":
            return self.free(p + (1,), p + (2,))
        if kind == "let":
            return [n for n in self.free(p + (1,)) if n != self.at(p)[1]]
        if kind == "seq":
            return self.free(p + (1,))
        if kind == "set":
            return []
        return self.free(*[p + (k,) for k in range(j + 1, len(children(self.at(p))))])

    def cut(self, env, numbers):
        return {n: env[n] for n in numbers}

    def evaluate(self, p, env):
        return ("eval", p, self.cut(env, self.free(p)))

    def frame(self, kind, p, j, words):
        """The frame of a map with these words."""
        if kind == "set":
            return (kind, p, 0, tuple(words), {})
        return (kind, p, j, tuple(words[:j]), dict(zip(self.frame_numbers(kind, p, j), words[j:])))

    def constant_told(self, name, words):
        if name in ("ask", "more", "show", "pair", "keep", "wind", "give up") or not all(map(is_const, words)):
            return None
        return do_prim(name, [word[2] for word in words], ())

    def quiet(self, standing):
        """The next standing by a quiet step, or None."""
        control, frames = standing
        if control[0] == "eval":
            _, p, env = control
            term = self.at(p)
            if term[0] == "const":
                return (("give", const(term[1])), frames)
            if term[0] == "var":
                return None if term[1] in self.boxed else (("give", env[term[1]]), frames)
            if term[0] == "fn" or not children(term):
                return None
            kind = "args" if term[0] in ("call", "prim") else term[0]
            if kind == "set":
                frame = (kind, p, 0, (env[term[1]],), {})
            else:
                frame = (kind, p, 0, (), self.cut(env, self.frame_numbers(kind, p, 0)))
            return (self.evaluate(p + (0,), env), frames + (frame,))
        if not frames:
            return None
        kind, p, j, done, env = frames[-1]
        below, word = frames[:-1], control[1]
        term = self.at(p)
        if kind == "seq":
            return (self.evaluate(p + (1,), env), below)
        if kind == "let" and term[1] not in self.boxed:
            return (self.evaluate(p + (1,), {**env, term[1]: word}), below)
        if kind == "if" and is_const(word):
            return (self.evaluate(p + ((2,) if word[2] is False else (1,)), env), below)
        if kind == "args":
            new = done + (word,)
            if len(new) < len(children(term)):
                frame = (kind, p, len(new), new, self.cut(env, self.frame_numbers(kind, p, len(new))))
                return (self.evaluate(p + (len(new),), env), below + (frame,))
            if term[0] == "prim":
                told = self.constant_told(term[1], new)
                if told is not None and told[0] == "give":
                    return (("give", const(told[1])), below)
        return None

    def way(self, standing):
        found = []
        while standing is not None:
            found.append(standing)
            standing = self.quiet(standing)
        return found

    def roots(self, standing):
        control, frames = standing
        words = list(control[2].values()) if control[0] == "eval" else [control[1]]
        for frame in frames:
            words += list(frame[3]) + list(frame[4].values())
        return {word for word in words if not is_const(word)}

    def call_end(self, p, words, sure):
        if is_const(words[0]):
            return ("stop", "no function", p), []
        if words[0] in sure:
            _, params, rest, _ = self.at(sure[words[0]])
            many = len(words) - 1
            if many == len(params) or (rest is not None and many > len(params)):
                return ("known", p, sure[words[0]]), words
            return ("stop", "count", p), []
        return ("call", p), words

    def event(self, standing, sure):
        """(what is compared first, the words, the roots or None)."""
        control, frames = standing
        if control[0] == "eval":
            _, p, env = control
            term = self.at(p)
            if term[0] == "var":
                return ("open",), [env[term[1]]], None
            if term[0] == "fn":
                return ("make", ("fn",), p), [env[n] for n in self.free(p)], self.roots(standing)
            return ("prim", term[1], p), [], None
        if not frames:
            return ("back",), [control[1]], None
        kind, p, _, done, _ = frames[-1]
        term = self.at(p)
        if kind == "set":
            return ("fill",), [done[0], control[1]], None
        if kind == "let":
            return ("make", ("box",), p), [control[1]], self.roots(standing)
        if kind == "if":
            return ("test",), [control[1]], None
        words = list(done) + [control[1]]
        if term[0] == "call":
            return (*self.call_end(p, words, sure), None)
        name = term[1]
        if name in ("keep", "wind"):
            return (name, p), words, None
        if name == "give up":
            return ("stop", "given up", p), [], None
        if name == "pair":
            return ("make", ("pair",), p), words, self.roots(standing)
        told = self.constant_told(name, words)
        return (("stop", told[1], p), [], None) if told else (("prim", name, p), words, None)

    def behind(self, standing, answer):
        control, frames = standing
        if control[0] == "eval":
            return (("give", answer), frames)
        kind, p, _, _, env = frames[-1]
        below = frames[:-1]
        if kind == "set":
            return (("give", const(())), below)
        if kind == "let":
            return (self.evaluate(p + (1,), {**env, self.at(p)[1]: answer}), below)
        if kind == "if":
            return (self.evaluate(p + ((1,) if answer else (2,)), env), below)
        return (("give", answer), below)


class Walk:
    def __init__(self, program, code, point, leads):
        self.told = program
        self.rows, self.maps = code[:2]
        self.start = point
        self.leads = leads
        self.visits = set()

    def source(self, source, window):
        if type(source) is int:
            return window.get(source)
        return const(source[1])

    def named(self, point, window, value, pushed):
        """The standing told at a named point."""
        chart = self.maps[point]
        frames = self.pushed_frames(pushed)
        for kind, p, j, sources in chart[-1]:
            frames.append(self.told.frame(kind, p, j, [self.source(one, window) for one in sources]))
        if chart[0] == "give":
            return (("give", value), tuple(frames))
        words = [self.source(one, window) for one in chart[2]]
        return (("eval", chart[1], dict(zip(self.told.free(chart[1]), words))), tuple(frames))

    def pushed_frames(self, pushed):
        frames = []
        for r, words in pushed:
            kind, p, j, _ = self.maps[r][1][0]
            frames.append(self.told.frame(kind, p, j, words))
        return frames

    def check(self):
        chart = self.maps[self.start]
        window, sure = {}, {}
        rows = [(chart[2], self.told.free(chart[1]))] if chart[0] == "eval" else []
        for kind, p, j, sources in chart[-1]:
            rows.append((sources[:j] if kind != "set" else sources, []))
            if kind != "set":
                rows.append((sources[j:], self.told.frame_numbers(kind, p, j)))
        for sources, numbers in rows:
            for k, one in enumerate(sources):
                if type(one) is int:
                    window[one] = ("slot", one)
                    if k < len(numbers) and numbers[k] in self.told.sure:
                        sure["slot", one] = self.told.sure[numbers[k]]
        value = ("value",) if chart[0] == "give" else None
        way = self.told.way(self.named(self.start, window, value, []))
        self.side(self.start, window, value, [], 0, sure, way, True)

    def need(self, word):
        if word is None:
            raise Fault("empty")
        return word

    def side(self, point, window, value, pushed, answers, sure, way, idle):
        """Goes along one side from a point on, whose row is done in any case."""
        window, pushed, sure = dict(window), list(pushed), dict(sure)
        while True:
            row = self.rows[point]
            word = row[0]
            self.visits.add((point, "come to"))

            def read(slots):
                return [self.need(window.get(i)) for i in slots]

            event = None
            if word == "load":
                value = const(row[1])
            elif word == "from":
                value = read([row[1]])[0]
            elif word == "to":
                window[row[1]] = self.need(value)
            elif word == "open":
                event = ("open",), read([row[1]]), None
            elif word == "fill":
                event = ("fill",), read([row[1]]) + [self.need(value)], None
            elif word == "prim":
                words = read(row[3])
                told = self.told.constant_told(row[1], words)
                if told is None:
                    event = ("prim", row[1], row[2]), words, None
                elif told[0] == "trap":
                    event = ("stop", told[1], row[2]), [], None
                else:
                    value = const(told[1])
                    self.visits.add((point, "idle"))
            elif word == "make":
                words = read(row[3])
                live = read(row[4])
                roots = {one for one in words + live + [one for _, more in pushed for one in more] if not is_const(one)}
                event = ("make", row[1], row[2]), words, roots
            elif word == "test":
                if is_const(self.need(value)):
                    self.visits.add((point, "idle"))
                    point = row[2] if value[2] is False else row[1]
                else:
                    event = ("test",), [value], None
            elif word == "push":
                pushed.append((row[1], read(row[2])))
            elif word == "go":
                window = dict(enumerate(read(row[2])))
                point = row[1]
            elif word == "back":
                event = ("back",), [self.need(value)], None
            elif word == "call":
                event = (*self.told.call_end(row[1], read(row[2]), sure), None)
                if event[0][0] != "call":
                    self.visits.add((point, "knowable"))
            elif word == "known":
                event = row[:3], read(row[3]), None
            elif word == "keep":
                event = row[:2], read([row[2]]), None
            elif word == "wind":
                event = row[:2], read(row[2]), None
            else:
                event = row, [], None
            if event is not None:
                wanted = self.told.event(way[-1], sure)
                self.compare(event, wanted, way[-1], pushed)
                if event[0][0] in ("back", "call", "known", "keep", "wind", "stop"):
                    return
                idle = False
                if word == "test":
                    for yes in (True, False):
                        behind = self.told.way(self.told.behind(way[-1], yes))
                        self.arrive(row[1 if yes else 2], window, value, pushed, answers, sure, behind, False)
                    return
                answer = None
                if word == "fill":
                    value = const(())
                else:
                    answer = value = ("result", answers)
                    answers += 1
                    if row[:2] == ("make", ("fn",)):
                        sure[answer] = row[2]
                    if word == "make":
                        window = {i: one for i, one in window.items() if i in row[4]}
                way = self.told.way(self.told.behind(way[-1], answer))
            if word not in ("test", "go"):
                point = row[-1]
            if self.maps[point] is not None:
                self.arrived(point, window, value, pushed, way, idle)
                return

    def arrive(self, point, window, value, pushed, answers, sure, way, idle):
        if self.maps[point] is not None:
            self.arrived(point, window, value, pushed, way, idle)
        else:
            self.side(point, window, value, pushed, answers, sure, way, idle)

    def compare(self, event, wanted, standing, pushed):
        if event[0] != wanted[0] or len(event[1]) != len(wanted[1]):
            raise Fault("event")
        if event[1] != wanted[1]:
            raise Fault("words")
        if event[2] != wanted[2]:
            raise Fault("roots")
        if event[0][0] in ("call", "known", "keep", "wind", "back"):
            frames = standing[1] if event[0][0] == "back" else standing[1][:-1]
            if tuple(self.pushed_frames(pushed)) != frames:
                raise Fault("frames")

    def arrived(self, point, window, value, pushed, way, idle):
        standing = self.named(point, window, value, pushed)
        if standing not in way:
            raise Fault("map")
        if idle and standing == way[0]:
            self.leads.append((self.start, point))


def code_fault(program, code):
    told = Program(program)
    for entry in code[2]:
        q, k, rest, boxed, picks, _ = entry
        _, params, name, _ = told.at(q)
        names = list(params) + ([] if name is None else [name])
        own = told.free(q)
        wanted = tuple(("handed", names.index(n)) if n in names else ("own", own.index(n)) for n in told.free(q + (0,)))
        truths = tuple(n in told.boxed for n in params) + (name in told.boxed,)
        if (k, rest, boxed, picks) != (len(params), name is not None, truths, wanted):
            return ("entry", q)
    leads = []
    named = [k for k, chart in enumerate(code[1]) if chart is not None]
    for k in named:
        try:
            Walk(told, code, k, leads).check()
        except Fault as fault:
            return ("point", k, fault.word)
    for k in named:
        reached, waiting = set(), [t for s, t in leads if s == k]
        while waiting:
            t = waiting.pop()
            if t not in reached:
                reached.add(t)
                waiting += [u for s, u in leads if s == t]
        if k in reached:
            return ("point", k, "turn")
    return None
