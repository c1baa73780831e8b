"""Expressions: each form gives the tasks that emit its nodes.

A task is ("emit", HEAD, PATH), ("expression", NODE, ENV), ("quoted", NODE, None), or
("function", (PARAMS, BODY, PATH), ENV).
"""

from keptrest.errors import Arguments, BadForm, UnknownWord
from keptrest.macros import read_macro
from keptrest.meanings import Scope, prim_of
from keptrest.nodes import Fixed, Row, Word, is_nothing
from keptrest.prims import prim_places

MOST_PARAMS = 12


def need(holds, path):
    """Raises BadForm if the shape of a form does not hold."""
    if not holds:
        raise BadForm(path)


def need_unlike(words):
    """Raises BadForm for the first word that is like one ahead of it."""
    seen = {}
    for word in words:
        need(word.key not in seen, word.path)
        seen[word.key] = True


def is_plain_row(node):
    """True for a list with a plain tail."""
    return isinstance(node, Row) and is_nothing(node.tail)


def in_sequence(steps):
    """The tasks of several steps (PATH, TASKS), one behind the other as seq has them."""
    tasks = []
    for k, (path, own) in enumerate(steps):
        if k + 1 < len(steps):
            tasks.append(("emit", ("seq",), path))
        tasks.extend(own)
    return tasks


def body_tasks(nodes, env):
    """The tasks of a body."""
    return in_sequence([(node.path, [("expression", node, env)]) for node in nodes])


def params_of(node, path):
    """The words of PARAMS, and its REST or None."""
    if isinstance(node, Word):
        return (), node
    if is_nothing(node):
        return (), None
    need(isinstance(node, Row), path)
    need(all([isinstance(part, Word) for part in node.parts]), path)
    need(isinstance(node.tail, Word) or is_nothing(node.tail), path)
    need(len(node.parts) <= MOST_PARAMS, path)
    return node.parts, node.tail if isinstance(node.tail, Word) else None


def function_tasks(expansion, function, env):
    """The tasks of a fn with PARAMS and a BODY."""
    params, body, path = function
    words, last = params_of(params, path)
    bound = words if last is None else (*words, last)
    need_unlike(bound)
    numbers, inner = expansion.bind(bound, env)
    rest = None if last is None else numbers[-1]
    head = ("fn", tuple(numbers[:len(words)]), rest)
    return [("emit", head, path)] + body_tasks(body, inner)


def quoted_tasks(expansion, node, _):
    """The tasks of a value that is made anew each time."""
    if isinstance(node, Fixed):
        return [("emit", ("const", node.value), node.path)]
    if isinstance(node, Word):
        expansion.fates.note(node, ("quoted",))
        return [("emit", ("const", ("name", node.letters)), node.path)]
    tasks = []
    for part in node.parts:
        tasks.append(("emit", ("prim", "pair", 2), part.path))
        tasks.append(("quoted", part, None))
    return tasks + [("quoted", node.tail, None)]


def form_quote(_, node, env):
    need(len(node.parts) == 2, node.path)
    return [("quoted", node.parts[1], env)]


def form_if(_, node, env):
    need(len(node.parts) == 4, node.path)
    return [("emit", ("if",), node.path)] + [("expression", part, env) for part in node.parts[1:]]


def form_seq(_, node, env):
    need(len(node.parts) >= 2, node.path)
    return body_tasks(node.parts[1:], env)


def form_fn(expansion, node, env):
    need(len(node.parts) >= 3, node.path)
    return function_tasks(expansion, (node.parts[1], node.parts[2:], node.path), env)


def bindings_of(node, least, most):
    """The lists behind the first word of a form, each a word and so many further items."""
    need(len(node.parts) >= 3, node.path)
    bindings = node.parts[1]
    if is_nothing(bindings):
        return ()
    need(is_plain_row(bindings), node.path)
    for part in bindings.parts:
        need(is_plain_row(part) and isinstance(part.parts[0], Word), node.path)
        need(least <= len(part.parts) - 1, node.path)
        need(most is None or len(part.parts) - 1 <= most, node.path)
    need_unlike([part.parts[0] for part in bindings.parts])
    return bindings.parts


def form_let(expansion, node, env):
    bindings = bindings_of(node, 1, 1)
    numbers, inner = expansion.bind([part.parts[0] for part in bindings], env)
    tasks = []
    for part, number in zip(bindings, numbers):
        tasks.append(("emit", ("let", number), node.path))
        tasks.append(("expression", part.parts[1], env))
    return tasks + body_tasks(node.parts[2:], inner)


def form_rec(expansion, node, env):
    bindings = bindings_of(node, 1, 1)
    numbers, inner = expansion.bind([part.parts[0] for part in bindings], env)
    tasks = []
    for number in numbers:
        tasks.append(("emit", ("let", number), node.path))
        tasks.append(("emit", ("const", ()), node.path))
    for part, number in zip(bindings, numbers):
        tasks.append(("emit", ("seq",), node.path))
        tasks.append(("emit", ("set", number), node.path))
        tasks.append(("expression", part.parts[1], inner))
    return tasks + body_tasks(node.parts[2:], inner)


def form_macros(expansion, node, env):
    bindings = bindings_of(node, 1, None)
    made = []
    for part in bindings:
        macro = expansion.new_macro(None)
        made.append(macro)
        env = Scope(part.parts[0].key, ("macro", macro.number), env)
    for part, macro in zip(bindings, made):
        macro.env = env
        expansion.fates.note(part.parts[0], ("macro",))
        read_macro(macro, part.parts[1:], expansion.fates)
    return body_tasks(node.parts[2:], env)


def form_set(expansion, node, env):
    need(len(node.parts) == 3 and isinstance(node.parts[1], Word), node.path)
    number = name_of(expansion, node.parts[1], env)
    return [("emit", ("set", number), node.path), ("expression", node.parts[2], env)]


def name_of(expansion, word, env):
    """The number of the name that a word means."""
    meaning = expansion.looked_up(word, env)
    if meaning[0] == "none":
        raise UnknownWord(word.letters, word.path)
    need(meaning[0] == "name", word.path)
    expansion.fates.note(word, ("refers", meaning[1]))
    return meaning[1]


FORMS = {
    "quote": form_quote,
    "if": form_if,
    "fn": form_fn,
    "let": form_let,
    "rec": form_rec,
    "set": form_set,
    "seq": form_seq,
    "macros": form_macros,
}


def prim_value_tasks(expansion, name, path):
    """The tasks of the function that stands for a prim word alone."""
    many = prim_places(name)
    numbers = [expansion.new_number() for _ in range(many)]
    tasks = [("emit", ("fn", tuple(numbers), None), path), ("emit", ("prim", name, many), path)]
    return tasks + [("emit", ("var", number), path) for number in numbers]


def word_tasks(expansion, word, env):
    """The tasks of a word that stands as an expression."""
    meaning = expansion.known.meaning(word.key, env)
    name = prim_of(meaning[1]) if meaning[0] == "base" else None
    if name is None:
        return [("emit", ("var", name_of(expansion, word, env)), word.path)]
    expansion.looked_up(word, env)
    return prim_value_tasks(expansion, name, word.path)


def base_tasks(expansion, word, node, env):
    """The tasks of a list whose first word means a base word."""
    need(is_nothing(node.tail), node.path)
    name = prim_of(word)
    if name is not None:
        many = len(node.parts) - 1
        if many != prim_places(name):
            raise Arguments(node.parts[0].letters, node.path)
        return [("emit", ("prim", name, many), node.path)] + argument_tasks(node.parts[1:], env)
    need(word in FORMS, node.path)
    form = FORMS[word]
    return form(expansion, node, env)


def argument_tasks(nodes, env):
    return [("expression", node, env) for node in nodes]


def call_tasks(node, env):
    """The tasks of a call."""
    need(is_nothing(node.tail) and len(node.parts) - 1 <= MOST_PARAMS, node.path)
    head = ("call", len(node.parts) - 1)
    return [("emit", head, node.path)] + argument_tasks(node.parts, env)


def expression_tasks(expansion, node, env):
    """The tasks of an expression."""
    if isinstance(node, Fixed):
        return [("emit", ("const", node.value), node.path)]
    if isinstance(node, Word):
        return word_tasks(expansion, node, env)
    meaning = expansion.head_meaning(node, env)
    if meaning[0] == "macro":
        return [("expression", expansion.used(meaning[1], node, env), env)]
    if meaning[0] == "base":
        return base_tasks(expansion, meaning[1], node, env)
    return call_tasks(node, env)


DOINGS = {"expression": expression_tasks, "quoted": quoted_tasks, "function": function_tasks}


def tasks_of(expansion, word, thing, env):
    """The tasks that a task but "emit" gives."""
    doing = DOINGS[word]
    return doing(expansion, thing, env)
