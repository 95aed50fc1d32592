"""Whether the package's files keep to LANGUAGE.md.

The check is narrower than the rules: it lets through the forms that the program needs and no others
(no method, no try, no lambda, no f-string, no annotation, no list or dict at a file's top), so a form
that a rule allows may be told as a fault here. Who needs it widens the check by that form.
A fault is a tuple of the rule's name, the file, the line and some words.
"""

import ast
import builtins
import io
import re
import tokenize

PACKAGE = "dyeweb"

OWN_NAMES = (
    "len range enumerate zip min max sum abs sorted reversed int str bool list tuple dict set frozenset "
    "isinstance ord repr any all divmod"
).split()
ERROR_BASES = (
    "Exception ValueError TypeError KeyError IndexError LookupError ZeroDivisionError ArithmeticError "
    "OverflowError RuntimeError NotImplementedError"
).split()
METHODS = (
    "append clear copy count endswith extend find get index insert isalnum isalpha isdigit islower isspace "
    "isupper items join keys ljust lower lstrip partition pop remove replace reverse rfind rjust rpartition "
    "rsplit rstrip setdefault split splitlines startswith strip update upper values zfill bit_length"
).split()
CHANGING = "append clear extend insert pop remove reverse setdefault update".split()
KEYWORDS = {
    "sorted": ("key", "reverse"), "min": ("key", "default"), "max": ("key", "default"),
    "sum": ("start",), "enumerate": ("start",), "zip": ("strict",),
}
KINDS = "int str bool list tuple dict".split()
WALKED = "zip enumerate reversed range items keys values".split()
WALKERS = "list tuple dict sorted sum any all enumerate zip".split()
BARRED_NAMES = (
    "register mro elements open input version_info with_traceback add_note f_back f_code f_globals f_locals "
    "tb_next tb_frame co_names co_code attrgetter breakpoint builtins compile copyright credits delattr dir "
    "eval exec exit gc getattr globals hasattr help id importlib license locals methodcaller os quit setattr "
    "super type vars sys"
).split()
BARRED_WORDS = (
    "type typing typing_extensions enum Enum IntEnum StrEnum Flag IntFlag Generic Protocol ABC ABCMeta "
    "namedtuple NamedTuple TypedDict TYPE_CHECKING abstractmethod"
).split()
BARRED_PARTS = ["dataclass", "overload", "contextmanager"]
BARRED_FILES = "test tests testing site conftest sitecustomize usercustomize".split()

STATEMENTS = (
    ast.FunctionDef, ast.ClassDef, ast.ImportFrom, ast.Assign, ast.AugAssign, ast.If, ast.While, ast.For,
    ast.Return, ast.Break, ast.Continue, ast.Pass, ast.Raise, ast.Expr,
)
EXPRESSIONS = (
    ast.Constant, ast.Name, ast.List, ast.Tuple, ast.Dict, ast.BinOp, ast.UnaryOp, ast.BoolOp, ast.Compare,
    ast.IfExp, ast.Call, ast.Attribute, ast.Subscript, ast.Slice, ast.ListComp,
)


def faults_of(files):
    """The faults of a package told as a dict of file names (without the package's folder) and texts."""
    trees = {name: ast.parse(text) for name, text in files.items() if name.endswith(".py")}
    found = file_faults(files)
    for name, tree in trees.items():
        for parent in ast.walk(tree):
            for child in ast.iter_child_nodes(parent):
                child.parent = parent
        lines = text_faults(files[name])
        for check in (
            top_faults, import_faults, function_faults, class_faults, statement_faults, expression_faults,
            name_faults, call_faults, walk_faults, raise_faults,
        ):
            lines += check(tree, trees)
        found += [(rule, name, line, words) for rule, line, words in lines]
    return found + round_faults(trees)


def told(rule, node, words):
    return (rule, getattr(node, "lineno", 0), words)


def file_faults(files):
    found = []
    for name in files:
        stem = name[:-3]
        if not re.fullmatch(r"[A-Za-z0-9_]+\.py", name):
            found.append(("L1", name, 0, "no plain .py file at the package's top"))
        elif stem == "__init__":
            continue
        elif not re.fullmatch(r"[a-z][a-z0-9_]*", stem):
            found.append(("L14", name, 0, "a file's name is lower-case and begins with a letter"))
        elif stem in BARRED_FILES + BARRED_WORDS + dir(builtins) or stem.startswith("test_"):
            found.append(("L14", name, 0, "a file is not called so"))
    if "__init__.py" not in files:
        found.append(("L14", "__init__.py", 0, "is missing"))
    return found


def text_faults(text):
    found = []
    lines = text.split("\n")
    if text.count("\n") > 400:
        found.append(("L10", 401, "more than 400 lines"))
    for number, line in enumerate(lines, start=1):
        if len(line) > 120:
            found.append(("L10", number, "more than 120 characters"))
        if "\t" in line:
            found.append(("L10", number, "a tab"))
        if re.search(r"[^ -~\t]", line):
            found.append(("L14", number, "a sign that is not from the blank to ~"))
        for word in re.findall(r"\w+", line):
            if word in BARRED_WORDS or any(part in word for part in BARRED_PARTS):
                found.append(("L17", number, f"the word {word}"))
    for token in tokenize.generate_tokens(io.StringIO(text).readline):
        found += token_faults(token)
    return found


def token_faults(token):
    found = []
    if token.type == tokenize.STRING:
        if token.string[0] not in "\"'":
            found.append(("L7", token.start[0], "a text with a letter ahead of it"))
        if "%" in token.string:
            found.append(("L27", token.start[0], "the percent sign in a text"))
        if re.search(r"\\[^nt\\\"']", token.string.replace("\\\\", "")):
            found.append(("L27", token.start[0], "an escape"))
    if token.type == tokenize.NUMBER and len(token.string) > 900:
        found.append(("L27", token.start[0], "a number of more than 900 digits"))
    return found


def is_docstring(node):
    return isinstance(node, ast.Expr) and isinstance(node.value, ast.Constant) and isinstance(node.value.value, str)


def is_plain(node):
    if isinstance(node, ast.Tuple):
        return all(is_plain(part) for part in node.elts)
    if isinstance(node, ast.UnaryOp):
        return isinstance(node.op, ast.USub) and is_plain(node.operand)
    return isinstance(node, ast.Constant)


def top_names(tree):
    names = []
    for node in tree.body:
        if isinstance(node, (ast.FunctionDef, ast.ClassDef)):
            names.append(node.name)
        if isinstance(node, ast.Assign):
            names += [target.id for target in node.targets if isinstance(target, ast.Name)]
        if isinstance(node, ast.ImportFrom):
            names += [alias.asname or alias.name for alias in node.names]
    return names


def own_names(tree):
    drawn = [alias.name for node in tree.body if isinstance(node, ast.ImportFrom) for alias in node.names]
    return [name for name in top_names(tree) if name not in drawn]


def top_faults(tree, trees):
    found = []
    for place, node in enumerate(tree.body):
        if place == 0 and is_docstring(node):
            continue
        if isinstance(node, ast.Assign):
            if not is_plain(node.value) or not isinstance(node.targets[0], ast.Name):
                found.append(told("L3", node, "no plain value at a file's top"))
        elif not isinstance(node, (ast.FunctionDef, ast.ClassDef, ast.Import, ast.ImportFrom)):
            found.append(told("L3", node, "no such thing at a file's top"))
    names = top_names(tree)
    for name in names:
        if names.count(name) > 1:
            found.append(told("L15", tree, f"{name} is bound twice"))
    return found


def import_faults(tree, trees):
    found = []
    files = {f"{PACKAGE}.{name[:-3]}": name for name in trees}
    for node in ast.walk(tree):
        if isinstance(node, ast.Import):
            found.append(told("L16", node, "not of the form from .. import .."))
        if not isinstance(node, ast.ImportFrom):
            continue
        if node.parent is not tree or node.level or node.module not in files:
            found.append(told("L2", node, "not the package's own file, by its full name, at the top"))
            continue
        for alias in node.names:
            if alias.asname or alias.name == "*":
                found.append(told("L2", node, "another name for it, or all names"))
            elif alias.name not in own_names(trees[files[node.module]]):
                found.append(told("L16", node, f"{alias.name} is not defined there"))
    return found


def round_faults(trees):
    """Files that draw from one another; what draws from a file draws from __init__.py too."""
    draws = {}
    for name, tree in trees.items():
        drawn = [node.module for node in ast.walk(tree) if isinstance(node, ast.ImportFrom) and node.module]
        draws[name] = {module[len(PACKAGE) + 1:] + ".py" for module in drawn} | ({"__init__.py"} if drawn else set())
    found = []
    for name in trees:
        reached = set(draws[name])
        for step in trees:
            reached |= {far for near in reached for far in draws.get(near, ())}
        if name in reached:
            found.append(("L16", name, 0, "draws from itself"))
    for name in top_names(trees.get("__init__.py", ast.parse(""))):
        if name + ".py" in trees:
            found.append(("L16", "__init__.py", 0, f"binds {name}, the name of a file"))
    return found


def function_faults(tree, trees):
    found = []
    for node in ast.walk(tree):
        if isinstance(node, (ast.AnnAssign, ast.arg)) and node.annotation:
            found.append(told("L21", node, "an annotation"))
        if not isinstance(node, ast.FunctionDef):
            continue
        args = node.args
        if node.decorator_list or args.vararg or args.kwarg or args.kwonlyargs or args.posonlyargs:
            found.append(told("L4", node, "a decorator or parameters that are not plain"))
        if not all(is_plain(value) for value in args.defaults):
            found.append(told("L4", node, "a default that is not plain"))
        if node.parent is not tree:
            found.append(told("L4", node, "a function that is not at the top"))
        if node.returns:
            found.append(told("L21", node, "an annotation"))
        if node.end_lineno - node.lineno + 1 > 40:
            found.append(told("L10", node, "more than 40 lines"))
    return found


def class_names(trees):
    return [node.name for tree in trees.values() for node in ast.walk(tree) if isinstance(node, ast.ClassDef)]


def class_faults(tree, trees):
    found = []
    classes = class_names(trees)
    for node in ast.walk(tree):
        if isinstance(node, ast.ClassDef):
            if node.parent is not tree:
                found.append(told("L15", node, "a class that is not at the top"))
            if node.decorator_list or node.keywords or len(node.bases) != 1:
                found.append(told("L5", node, "not a plain class with one base"))
            elif not isinstance(node.bases[0], ast.Name) or node.bases[0].id not in classes + ERROR_BASES:
                found.append(told("L18", node, "not under an error class"))
            if not all(isinstance(part, ast.Pass) for part in node.body):
                found.append(told("L5", node, "more than an error class needs"))
        if isinstance(node, ast.Name) and node.id in classes + ERROR_BASES:
            called = isinstance(node.parent, ast.Call) and node.parent.func is node
            if not isinstance(node.parent, ast.ClassDef) and not (called and isinstance(node.parent.parent, ast.Raise)):
                found.append(told("L18", node, f"the class {node.id} is not raised there"))
    return found


def statement_faults(tree, trees):
    found = []
    for node in ast.walk(tree):
        if isinstance(node, ast.stmt) and not isinstance(node, STATEMENTS + (ast.Import,)):
            found.append(told("L6", node, "no such statement"))
        if isinstance(node, (ast.For, ast.While)) and node.orelse:
            found.append(told("L6", node, "else behind a loop"))
        if isinstance(node, ast.Expr) and not isinstance(node.value, ast.Call):
            if not (is_docstring(node) and node is tree.body[0]):
                found.append(told("L6", node, "neither a call nor a statement"))
        if isinstance(node, ast.Assign):
            if len(node.targets) != 1 or not isinstance(node.targets[0], (ast.Name, ast.Subscript)):
                found.append(told("L6", node, "more than one target"))
        if isinstance(node, (ast.For, ast.comprehension)) and not is_loop_target(node.target):
            found.append(told("L6", node.target, "a loop binds something else than names"))
        if isinstance(node, ast.AugAssign) and not isinstance(node.target, (ast.Name, ast.Subscript)):
            found.append(told("L6", node, "no such target"))
    return found


def is_loop_target(target):
    if isinstance(target, ast.Tuple):
        return all(is_loop_target(part) for part in target.elts)
    return isinstance(target, ast.Name)


def expression_faults(tree, trees):
    found = []
    for node in ast.walk(tree):
        if isinstance(node, ast.expr) and not isinstance(node, EXPRESSIONS):
            found.append(told("L7", node, "no such expression"))
        if isinstance(node, ast.Constant) and not isinstance(node.value, (int, str, bool, type(None))):
            found.append(told("L7", node, "no such value"))
        if isinstance(node, (ast.Div, ast.MatMult)):
            found.append(told("L7", node.parent, "no such operator"))
        if isinstance(node, ast.ListComp):
            if len(node.generators) != 1 or len(node.generators[0].ifs) > 1 or node.generators[0].is_async:
                found.append(told("L7", node, "more than one for and one if"))
        if isinstance(node, ast.Dict) and None in node.keys:
            found.append(told("L7", node, "a star"))
        if isinstance(node, ast.Pow):
            power = node.parent.right if isinstance(node.parent, ast.BinOp) else node.parent.value
            if not isinstance(power, ast.Constant) or power.value not in range(65):
                found.append(told("L27", node.parent, "an exponent that is not written, from 0 to 64"))
        if isinstance(node, ast.Compare):
            found += is_faults(node)
    return found


def is_faults(node):
    found = []
    sides = [node.left] + node.comparators
    for place, operator in enumerate(node.ops):
        if isinstance(operator, (ast.Is, ast.IsNot)):
            beside = [side.value for side in sides[place:place + 2] if isinstance(side, ast.Constant)]
            if not any(value is None or value is True or value is False for value in beside):
                found.append(told("L20", node, "is"))
    return found


def bound_within(function):
    names = [arg.arg for arg in function.args.args]
    return names + [
        node.id for node in ast.walk(function) if isinstance(node, ast.Name) and isinstance(node.ctx, ast.Store)
    ]


def name_faults(tree, trees):
    found = []
    top = top_names(tree)
    for function in [node for node in tree.body if isinstance(node, ast.FunctionDef)]:
        bound = bound_within(function)
        for name in bound:
            if name in dir(builtins) or name in top:
                found.append(told("L15", function, f"{name} has another meaning"))
        for node in ast.walk(function):
            if isinstance(node, ast.Name) and node.id not in bound + top + OWN_NAMES + ERROR_BASES:
                found.append(told("L8", node, f"{node.id} is not known"))
    for name, node in names_given(tree):
        if not re.fullmatch(r"[A-Za-z][A-Za-z0-9_]*", name):
            found.append(told("L12", node, f"{name} is no plain name"))
        if name in BARRED_NAMES:
            found.append(told("L17", node, f"{name} is not used"))
        if name in OWN_NAMES and not isinstance(node, (ast.Name, ast.Attribute, ast.keyword)):
            found.append(told("L8", node, f"{name} has another meaning"))
    return found


def names_given(tree):
    names = []
    for node in ast.walk(tree):
        for field in ("id", "arg", "attr", "name"):
            name = getattr(node, field, None)
            if isinstance(name, str):
                names.append((name, node))
    return names


def call_faults(tree, trees):
    found = []
    for node in ast.walk(tree):
        called = isinstance(getattr(node, "parent", None), ast.Call) and node.parent.func is node
        if isinstance(node, ast.Attribute) and (node.attr not in METHODS or not called):
            found.append(told("L25", node, f"{node.attr} is no method that is called there"))
        if isinstance(node, ast.Name) and node.id in OWN_NAMES and not called:
            asked = isinstance(node.parent, ast.Call) and getattr(node.parent.func, "id", "") == "isinstance"
            if not asked or node.id not in KINDS or node.parent.args[1:] != [node]:
                found.append(told("L22", node, f"{node.id} is not called there"))
        if isinstance(node, ast.Call):
            found += keyword_faults(node, top_names(tree))
            if getattr(node.func, "id", "") in ("set", "frozenset") and not set_is_in_place(node):
                found.append(told("L24", node, "a set is kept or walked"))
            name = getattr(node.func, "id", getattr(node.func, "attr", ""))
            if name in WALKED and not is_walked_at_once(node):
                found.append(told("L23", node, f"{name} is not walked on the spot"))
    return found


def keyword_faults(call, top):
    name = getattr(call.func, "id", "")
    given = [keyword.arg for keyword in call.keywords]
    if name in top:
        return [told("L7", call, "a star") for word in given if word is None]
    found = [told("L22", call, f"the keyword {word}") for word in given if word not in KEYWORDS.get(name, ())]
    for keyword in call.keywords:
        written = isinstance(keyword.value, ast.Constant) and isinstance(keyword.value.value, bool)
        if keyword.arg in ("reverse", "strict") and not written:
            found.append(told("L22", call, f"{keyword.arg} without a written True or False"))
    return found


def set_is_in_place(call):
    parent = call.parent
    if isinstance(parent, ast.Call):
        return getattr(parent.func, "id", "") in ("sorted", "len") and not parent.keywords
    return (
        isinstance(parent, ast.Compare) and parent.left is not call
        and all(isinstance(operator, (ast.In, ast.NotIn)) for operator in parent.ops)
    )


def is_walked_at_once(call):
    parent = call.parent
    if isinstance(parent, (ast.For, ast.comprehension)):
        return parent.iter is call
    if not isinstance(parent, ast.Call):
        return False
    name = getattr(parent.func, "id", "")
    if name in ("min", "max"):
        return len(parent.args) == 1
    return name in WALKERS and parent.args[0] is call


def walk_faults(tree, trees):
    found = []
    for loop in [node for node in ast.walk(tree) if isinstance(node, ast.For)]:
        walked = walked_names(loop.iter)
        for node in [inner for part in loop.body for inner in ast.walk(part)]:
            if changed_name(node) in walked:
                found.append(told("L23", node, "what the loop walks is changed"))
    return found


def walked_names(walked):
    if isinstance(walked, ast.Name):
        return [walked.id]
    if not isinstance(walked, ast.Call):
        return []
    if isinstance(walked.func, ast.Attribute):
        return walked_names(walked.func.value)
    if getattr(walked.func, "id", "") in ("enumerate", "zip", "reversed"):
        return [name for arg in walked.args for name in walked_names(arg)]
    return []


def changed_name(node):
    changed = None
    if isinstance(node, ast.Call) and isinstance(node.func, ast.Attribute) and node.func.attr in CHANGING:
        changed = node.func.value
    if isinstance(node, ast.AugAssign):
        changed = node.target
    if isinstance(node, ast.Assign) and isinstance(node.targets[0], ast.Subscript):
        changed = node.targets[0]
    while isinstance(changed, ast.Subscript):
        changed = changed.value
    return getattr(changed, "id", "")


def raise_faults(tree, trees):
    found = []
    classes = class_names(trees)
    for node in ast.walk(tree):
        if isinstance(node, ast.Raise):
            made = isinstance(node.exc, ast.Call) and getattr(node.exc.func, "id", "") in classes
            if not made or node.cause:
                found.append(told("L19", node, "not an error of the program's own made on the spot"))
    return found
