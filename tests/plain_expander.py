"""Expansion once more, by turns and in any order, straight from the words of the document.

It knows right programs alone. Data are W (words), C (constants) and L (lists).
"""

import random

from keptrest.prims import WANTED

BASE = set("quote if fn let rec set seq macros define macro".split())
PRIMS = {name.replace(" ", "-"): name for name in WANTED}


class Key:
    def __init__(self, word, of=None, env=None):
        self.word = word
        self.of = of
        self.env = env


class W:
    def __init__(self, key, path, spot):
        self.key, self.path, self.spot = key, path, spot


class C:
    def __init__(self, value, path):
        self.value, self.path = value, path


class L:
    def __init__(self, items, tail, path):
        self.items, self.path = items, path
        self.tail = C((), path) if isinstance(tail, C) and tail.value == () else tail


class Macro:
    def __init__(self):
        self.env, self.literals, self.rules = None, [], []


class Term:
    """A node of the core program, with terms and waiting uses below it."""

    def __init__(self, kind, path, below=(), **more):
        self.kind, self.path, self.below = kind, path, list(below)
        self.__dict__.update(more)


class Use:
    def __init__(self, datum, env):
        self.datum, self.env = datum, env


class Expander:
    def __init__(self, program):
        self.words = {}
        self.top = {}
        self.fates = {}
        self.uses = 0
        self.program = [self.read(datum, (k,)) for k, datum in enumerate(program)]

    def read(self, datum, path):
        if type(datum) is not tuple or datum == ():
            return C(datum, path)
        if datum[0] == "name":
            self.fates.setdefault(path, set())
            return W(self.words.setdefault(datum[1], Key(datum[1])), path, path)
        items = [self.read(item, path + (k,)) for k, item in enumerate(datum[1])]
        tail = C((), path) if datum[2] == () else self.read(datum[2], path + (len(items),))
        return L(items, tail, path)

    def note(self, word, *fate):
        self.fates[word.spot].add(fate)

    def meaning(self, key, env):
        if key in env:
            return env[key]
        if key in self.top:
            return self.top[key]
        if key.of is not None:
            return self.meaning(key.of, key.env)
        return key.word

    def base_of(self, meaning):
        return meaning if type(meaning) is str and (meaning in BASE or meaning in PRIMS) else None

    def looked(self, word, env):
        found = self.meaning(word.key, env)
        if self.base_of(found):
            self.note(word, "base")
        if isinstance(found, Macro):
            self.note(word, "macro")
        return found

    def head(self, datum, env):
        if isinstance(datum, L) and isinstance(datum.items[0], W):
            return self.looked(datum.items[0], env)
        return None

    # rules

    def read_macro(self, macro, env, literals, rules):
        macro.env = env
        for word in literals.items if isinstance(literals, L) else []:
            macro.literals.append(word.key)
            self.note(word, "literal")
        for rule in rules:
            pattern, template = rule.items
            names = {}
            self.pattern_names(pattern, macro, 0, names, True)
            macro.rules.append((pattern, template, names))
            self.note_template(template, names)

    def pattern_names(self, pattern, macro, depth, names, whole=False):
        if isinstance(pattern, W):
            literal = pattern.key in macro.literals
            self.note(pattern, "literal" if literal else "pattern")
            if not literal and pattern.key.word not in "_&":
                names[pattern.key] = depth
        if isinstance(pattern, L):
            for k, item in enumerate(pattern.items):
                if whole and k == 0:
                    self.note_all(item)
                    continue
                more = k + 1 < len(pattern.items) and self.is_repeat(pattern.items[k + 1])
                self.pattern_names(item, macro, depth + (1 if more else 0), names)
            self.pattern_names(pattern.tail, macro, depth, names)

    def note_all(self, datum):
        if isinstance(datum, W):
            self.note(datum, "pattern")
        if isinstance(datum, L):
            for part in datum.items + [datum.tail]:
                self.note_all(part)

    def note_template(self, datum, names):
        if isinstance(datum, W) and (datum.key in names or datum.key.word in "_&"):
            self.note(datum, "pattern")
        if isinstance(datum, L):
            for part in datum.items + [datum.tail]:
                self.note_template(part, names)

    def is_repeat(self, datum):
        return isinstance(datum, W) and datum.key.word == "&"

    def match(self, macro, pattern, datum, env, found, liked):
        if isinstance(pattern, W):
            if pattern.key in macro.literals:
                if not isinstance(datum, W):
                    return False
                one, other = self.meaning(pattern.key, macro.env), self.meaning(datum.key, env)
                liked.append(datum)
                return one == other if type(one) is str else one is other
            if pattern.key.word != "_":
                found[pattern.key] = datum
            return True
        if isinstance(pattern, C):
            return isinstance(datum, C) and type(datum.value) is type(pattern.value) and datum.value == pattern.value
        return self.match_list(macro, pattern, datum, env, found, liked)

    def match_list(self, macro, pattern, datum, env, found, liked):
        items, tail = (datum.items, datum.tail) if isinstance(datum, L) else ([], datum)
        at = [k for k, item in enumerate(pattern.items) if self.is_repeat(item)]
        ahead, behind = (pattern.items[:at[0] - 1], pattern.items[at[0] + 1:]) if at else (pattern.items, [])
        if len(items) < len(ahead) + len(behind):
            return False
        middle = items[len(ahead):len(items) - len(behind)]
        pairs = list(zip(ahead, items)) + list(zip(behind, items[len(items) - len(behind):] if behind else []))
        if not at:
            tail = self.joined(middle, tail, datum.path)
        if not all(self.match(macro, one, other, env, found, liked) for one, other in pairs):
            return False
        if at:
            turns = []
            for item in middle:
                turns.append({})
                if not self.match(macro, pattern.items[at[0] - 1], item, env, turns[-1], liked):
                    return False
            names = {}
            self.silent_names(pattern.items[at[0] - 1], macro, names)
            for key in names:
                found[key] = [turn[key] for turn in turns]
        return self.match(macro, pattern.tail, tail, env, found, liked)

    def silent_names(self, pattern, macro, names):
        if isinstance(pattern, W) and pattern.key not in macro.literals and pattern.key.word not in "_&":
            names[pattern.key] = True
        if isinstance(pattern, L):
            for part in pattern.items + [pattern.tail]:
                self.silent_names(part, macro, names)

    def joined(self, items, tail, path):
        if not items:
            return tail
        if isinstance(tail, L):
            return L(items + tail.items, tail.tail, path)
        return L(items, tail, path)

    def put(self, template, found, new, plain=False):
        if isinstance(template, W):
            return found[template.key] if template.key in found else new(template)
        if isinstance(template, C):
            return C(template.value, new(None))
        items = template.items
        if not plain and len(items) == 2 and self.is_repeat(items[0]) and isinstance(template.tail, C) and (
                template.tail.value == ()):
            return self.put(items[1], found, new, True)
        out = []
        for k, item in enumerate(items):
            if not plain and self.is_repeat(item):
                continue
            if not plain and k + 1 < len(items) and self.is_repeat(items[k + 1]):
                names = {}
                self.silent_names(item, Macro(), names)
                names = [key for key in names if key in found]
                for turn in range(len(found[names[0]])):
                    out.append(self.put(item, {**found, **{key: found[key][turn] for key in names}}, new))
            else:
                out.append(self.put(item, found, new, plain))
        return self.joined(out, self.put(template.tail, found, new, plain), new(None))

    def used(self, macro, datum, env):
        self.uses += 1
        for pattern, template, _ in macro.rules:
            found, liked, keys = {}, [], {}
            blind = L([W(Key("_"), (), None)] + pattern.items[1:], pattern.tail, ())
            if self.match(macro, blind, datum, env, found, liked):
                for word in liked:
                    self.note(word, "literal")

                def new(word):
                    if word is None:
                        return datum.path
                    if word.key not in keys:
                        keys[word.key] = Key(word.key.word, word.key, macro.env)
                    return W(keys[word.key], datum.path, word.spot)

                return self.put(template, found, new)
        raise AssertionError("no rule")

    # expressions

    def bind(self, words, env):
        env = dict(env)
        names = []
        for word in words:
            names.append(Term("name", None))
            env[word.key] = names[-1]
            self.note(word, "binds", names[-1])
        return names, env

    def body(self, data, env):
        terms = [(datum.path, self.expression(datum, env)) for datum in data]
        return self.row(terms)

    def row(self, terms):
        path, term = terms[0]
        return term if len(terms) == 1 else Term("seq", path, [term, self.row(terms[1:])])

    def function(self, params, body, path, env):
        words = list(params.items) if isinstance(params, L) else []
        last = params.tail if isinstance(params, L) else params
        rest = isinstance(last, W)
        names, inner = self.bind(words + ([last] if rest else []), env)
        split = len(words)
        return Term("fn", path, [self.body(body, inner)], params=names[:split], rest=names[split] if rest else None)

    def quoted(self, datum):
        if isinstance(datum, C):
            return Term("const", datum.path, value=datum.value)
        if isinstance(datum, W):
            self.note(datum, "quoted")
            return Term("const", datum.path, value=("name", datum.key.word))
        term = self.quoted(datum.tail)
        for item in reversed(datum.items):
            term = Term("prim", item.path, [self.quoted(item), term], name="pair")
        return term

    def expression(self, datum, env):
        if isinstance(datum, C):
            return Term("const", datum.path, value=datum.value)
        if isinstance(datum, W):
            found = self.looked(datum, env)
            if type(found) is str:
                names = [Term("name", None) for _ in WANTED[PRIMS[found]]]
                below = [Term("var", datum.path, name=name) for name in names]
                prim = Term("prim", datum.path, below, name=PRIMS[found])
                return Term("fn", datum.path, [prim], params=names, rest=None)
            self.note(datum, "refers", found)
            assert found.kind == "name"
            return Term("var", datum.path, name=found)
        found = self.head(datum, env)
        if isinstance(found, Macro):
            return Use(datum, env)
        word = self.base_of(found)
        if word in PRIMS:
            assert len(datum.items) - 1 == len(WANTED[PRIMS[word]])
            return Term("prim", datum.path, [self.expression(item, env) for item in datum.items[1:]], name=PRIMS[word])
        if word is None:
            return Term("call", datum.path, [self.expression(item, env) for item in datum.items])
        return getattr(self, "form_" + word)(datum, datum.items, env)

    def form_quote(self, datum, items, env):
        return self.quoted(items[1])

    def form_if(self, datum, items, env):
        return Term("if", datum.path, [self.expression(item, env) for item in items[1:]])

    def form_seq(self, datum, items, env):
        return self.body(items[1:], env)

    def form_set(self, datum, items, env):
        name = self.looked(items[1], env)
        self.note(items[1], "refers", name)
        assert name.kind == "name"
        return Term("set", datum.path, [self.expression(items[2], env)], name=name)

    def form_fn(self, datum, items, env):
        return self.function(items[1], items[2:], datum.path, env)

    def pairs(self, datum):
        return datum.items if isinstance(datum, L) else []

    def form_let(self, datum, items, env):
        pairs = self.pairs(items[1])
        values = [self.expression(pair.items[1], env) for pair in pairs]
        names, inner = self.bind([pair.items[0] for pair in pairs], env)
        term = self.body(items[2:], inner)
        for name, value in reversed(list(zip(names, values))):
            term = Term("let", datum.path, [value, term], name=name)
        return term

    def form_rec(self, datum, items, env):
        pairs = self.pairs(items[1])
        names, inner = self.bind([pair.items[0] for pair in pairs], env)
        values = [self.expression(pair.items[1], inner) for pair in pairs]
        term = self.body(items[2:], inner)
        for name, value in reversed(list(zip(names, values))):
            term = Term("seq", datum.path, [Term("set", datum.path, [value], name=name), term])
        for name in reversed(names):
            term = Term("let", datum.path, [Term("const", datum.path, value=()), term], name=name)
        return term

    def form_macros(self, datum, items, env):
        env = dict(env)
        made = []
        for one in self.pairs(items[1]):
            made.append((one, Macro()))
            env[one.items[0].key] = made[-1][1]
            self.note(one.items[0], "macro")
        for one, macro in made:
            self.read_macro(macro, env, one.items[1], one.items[2:])
        return self.body(items[2:], env)

    # the whole

    def top_forms(self, data):
        for datum in data:
            found = self.head(datum, {})
            while isinstance(found, Macro):
                datum = self.used(found, datum, {})
                found = self.head(datum, {})
            if found == "seq":
                yield from self.top_forms(datum.items[1:])
            elif found == "macro":
                macro = Macro()
                self.note(datum.items[1], "macro")
                self.top[datum.items[1].key] = macro
                self.read_macro(macro, {}, datum.items[2], datum.items[3:])
            elif found == "define":
                told = datum.items[1]
                word = told if isinstance(told, W) else told.items[0]
                self.top[word.key] = Term("name", None)
                self.note(word, "binds", self.top[word.key])
                yield datum, self.top[word.key]
            else:
                yield datum, None

    def expand(self, order):
        steps = list(self.top_forms(self.program))
        terms = []
        for datum, name in steps:
            if name is None:
                terms.append((datum.path, self.expression(datum, {})))
                continue
            told = datum.items[1]
            if isinstance(told, W):
                value = self.expression(datum.items[2], {})
            else:
                params = self.joined(told.items[1:], told.tail, told.path)
                value = self.function(params, datum.items[2:], datum.path, {})
            terms.append((datum.path, Term("set", datum.path, [value], name=name)))
        term = self.row(terms)
        for datum, name in reversed(steps):
            if name is not None:
                term = Term("let", datum.path, [Term("const", datum.path, value=()), term], name=name)
        self.root = Term("root", None, [term])
        self.take_turns(order)

    def waiting(self, term):
        for k, part in enumerate(term.below):
            if isinstance(part, Use):
                yield term, k
            else:
                yield from self.waiting(part)

    def take_turns(self, order):
        turn = 0
        while True:
            waiting = list(self.waiting(self.root))
            if not waiting:
                return
            term, k = waiting[order[turn] % len(waiting) if turn < len(order) else 0]
            use = term.below[k]
            macro = self.meaning(use.datum.items[0].key, use.env)
            term.below[k] = self.expression(self.used(macro, use.datum, use.env), use.env)
            turn += 1

    def told(self):
        """The core program, the pairs of places_back, the pairs of word_fates."""
        numbers = {}
        back = []
        core = self.core(self.root.below[0], (), numbers, back)
        fates = []
        for path in sorted(self.fates):
            found = [(fate[0], numbers[fate[1]]) if len(fate) == 2 else fate for fate in self.fates[path]]
            fates.append((path, tuple(sorted(found))))
        return core, tuple(back), tuple(fates)

    def core(self, term, place, numbers, back):
        back.append((place, term.path))
        kind = term.kind
        own = term.params + ([] if term.rest is None else [term.rest]) if kind == "fn" else [term.name] if kind == "let" else []
        for name in own:
            numbers[name] = len(numbers)
        parts = [self.core(part, place + (k,), numbers, back) for k, part in enumerate(term.below)]
        if kind == "const":
            return (kind, term.value)
        if kind in ("var", "set", "let"):
            return (kind, numbers[term.name], *parts)
        if kind == "fn":
            rest = None if term.rest is None else numbers[term.rest]
            return (kind, tuple(numbers[name] for name in term.params), rest, *parts)
        if kind == "call":
            return (kind, parts[0], tuple(parts[1:]))
        return (kind, term.name, tuple(parts)) if kind == "prim" else (kind, *parts)


class Sources:
    """Random programs in which few words mean many things."""

    WORDS = ("a", "b", "c", "t")

    def __init__(self, seed):
        self.source = random.Random(seed)

    def word(self):
        return self.source.choice(self.WORDS)

    def expression(self, depth, macros, names=()):
        source = self.source
        if depth <= 0:
            if names and source.random() < 0.6:
                return source.choice(names)
            return source.choice((self.word(), self.word(), "1", "#no", "'" + self.word(), "add"))
        known = [name for name in macros]
        make = source.choice((self.let, self.let, self.fn, self.form, self.form, self.local, self.use, self.use, self.use))
        return make(depth - 1, macros, names) if make != self.use or known else self.let(depth - 1, macros, names)

    def let(self, depth, macros, names):
        word = self.source.choice(("let", "let", "rec"))
        binder = self.binder(names)
        return f"({word} (({binder} {self.expression(depth, macros, names)})) {self.expression(depth, macros, names)})"

    def binder(self, names):
        words = [name for name in names if name in ("x", "y")]
        return self.source.choice(words) if words and self.source.random() < 0.5 else self.word()

    def fn(self, depth, macros, names):
        params = self.source.choice(("({})", "(z . {})", "{}", "(z {})"))
        params = params.replace("{}", self.binder(names))
        return f"(fn {params} {self.expression(depth, macros, names)})"

    def form(self, depth, macros, names):
        make = self.source.choice(("(if {} {} {})", "(add {} {})", "(seq {} {})", "({} {})", "(set %s {})", "'(%s {} . %s)",
                                   "(pair {} {})"))
        while "%s" in make:
            make = make.replace("%s", self.binder(names), 1)
        while "{}" in make:
            make = make.replace("{}", self.expression(depth - 1, macros, names), 1)
        return make

    def macro(self, depth, macros, outer=()):
        """Rules of a macro: x and y are passed words, p and q expressions, r a row of them."""
        literal = self.word()
        own = tuple(outer) + ("x", "y", "p", "q")
        first = self.expression(depth, macros, own)
        second = self.expression(depth, macros, own)
        third = f"(seq {self.expression(depth - 1, macros, ('x', 'p'))} r & (let ((x p)) (pair r r) & p))"
        rules = [f"((_ x y p q) {first})", f"((_ {literal} x p . q) {second})", f"((_ x {literal}) 5)", f"((_ x p r &) {third})",
                 "((_ . x) 'x)"]
        return f"({literal}) " + " ".join(rules)

    def local(self, depth, macros, names):
        name = self.source.choice(("m", "n", "k"))
        rules = self.macro(min(depth, 1), macros)
        if any(word in names for word in ("x", "y", "p", "q")):
            rules = "() " + f"((_ v w (& &)) (let ((v w)) (& (pair v {self.source.choice(names)}))))"
        return f"(macros (({name} {rules})) {self.expression(depth, {*macros, name}, names)})"

    def use(self, depth, macros, names):
        name = self.source.choice(sorted(macros))
        words = [self.binder(names) for _ in range(2)]
        many = self.source.choice((0, 1, 2, 2, 3))
        args = " ".join(self.expression(depth - 1, macros, names) for _ in range(many))
        return f"({name} {words[0]} {words[1]} {args})"

    def program(self):
        forms = [f"(define {word} {k})" for k, word in enumerate(self.WORDS)]
        macros = set()
        for name in ("m", "n", "k")[:self.source.randrange(1, 4)]:
            macros.add(name)
            forms.append(f"(macro {name} {self.macro(2, set(macros))})")
        if self.source.random() < 0.5:
            forms.append("(macro d () ((_ w e) (seq (define w e) (define u w) (define (g . t) (pair u e)))))")
            forms.append(f"(d new {self.expression(1, macros)})")
        self.source.shuffle(forms)
        forms += [self.expression(self.source.randrange(2, 5), macros) for _ in range(2)]
        return "\n".join(forms)
