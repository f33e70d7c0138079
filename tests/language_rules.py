"""The rules of LANGUAGE.md, checked on the package's files.

Where a rule allows much, this allows only what the package uses so far: less is never against a rule.
Widen a list here only with the rule it stands for at hand.
"""

import ast
import builtins
import io
import re
import tokenize
import warnings

PACKAGE = "echopanes"
PLAIN_NAME = re.compile(r"[A-Za-z][A-Za-z0-9_]*")
ALLOWED_NODES = (
    ast.Module, ast.ImportFrom, ast.alias, ast.FunctionDef, ast.arguments, ast.arg, ast.ClassDef,
    ast.Return, ast.Assign, ast.AugAssign, ast.If, ast.While, ast.For, ast.Raise, ast.Try, ast.ExceptHandler,
    ast.Pass, ast.Break, ast.Continue, ast.Expr, ast.Name, ast.Constant, ast.Tuple, ast.List, ast.Dict,
    ast.BinOp, ast.Add, ast.Sub, ast.Mult, ast.FloorDiv, ast.Mod, ast.UnaryOp, ast.USub, ast.Not,
    ast.BoolOp, ast.And, ast.Or, ast.Compare, ast.cmpop, ast.IfExp, ast.Call, ast.keyword, ast.Attribute,
    ast.Subscript, ast.Slice, ast.ListComp, ast.DictComp, ast.comprehension, ast.expr_context,
)
ERRORS = {
    "Exception", "ValueError", "KeyError", "IndexError", "LookupError", "ZeroDivisionError", "ArithmeticError",
    "OverflowError", "RuntimeError", "NotImplementedError",
}
FREELY_CAUGHT = {"KeyError", "ZeroDivisionError"}
BUILTINS = {
    "len", "range", "enumerate", "zip", "min", "max", "sum", "abs", "sorted", "reversed", "int", "str", "bool",
    "list", "tuple", "dict", "isinstance", "repr", "any", "all", "divmod",
}
KEYWORDS = {"sum": {"start"}, "enumerate": {"start"}}
AT_ONCE = {"zip", "enumerate", "reversed", "range", "items", "keys", "values"}
TAKE_AT_ONCE = {"list", "tuple", "dict", "sorted", "sum", "any", "all", "enumerate", "zip", "min", "max"}
METHODS = set(
    "append clear copy count endswith extend find get index insert isalnum isalpha isdigit islower isspace isupper"
    " items join keys ljust lower lstrip partition pop remove replace reverse rfind rjust rpartition rsplit rstrip"
    " setdefault split splitlines startswith strip update upper values zfill bit_length"
    " removeprefix".split()  # the last row is of L25's additional ones
)
MODIFY = {"append", "clear", "extend", "insert", "pop", "remove", "reverse", "setdefault", "update"}
DOUBLE = {"__init__", "__eq__", "__len__"}  # L28 asks more of the others than is checked here
BARRED_NAMES = set(
    "register mro elements open input version_info with_traceback add_note attrgetter breakpoint builtins compile"
    " copyright credits delattr dir eval exec exit gc getattr globals hasattr help id importlib license locals"
    " methodcaller os quit setattr super type vars sys format format_map args".split()
)
BARRED_WORDS = re.compile(
    r"\b(type|typing|typing_extensions|enum|Enum|IntEnum|StrEnum|Flag|IntFlag|Generic|Protocol|ABC|ABCMeta|namedtuple"
    r"|NamedTuple|TypedDict|TYPE_CHECKING|abstractmethod)\b|dataclass|overload|contextmanager"
)
BARRED_FILES = re.compile(r"law_.*|tests?|testing|test_.*|site|conftest|sitecustomize|usercustomize|__main__")
OF_BUILTIN_VALUES = {name for kind in (str, int, list, dict, set, bytes, tuple) for name in dir(kind)}


def top_names(tree):
    """The names that a file's functions, classes, constants and imports bind, with repeats."""
    names = []
    for node in tree.body:
        if isinstance(node, (ast.FunctionDef, ast.ClassDef)):
            names.append(node.name)
        elif isinstance(node, ast.Assign):
            names += [target.id for target in node.targets if isinstance(target, ast.Name)]
        elif isinstance(node, ast.ImportFrom):
            names += [alias.asname or alias.name for alias in node.names]
    return names


def is_docstring(node):
    return isinstance(node, ast.Expr) and isinstance(node.value, ast.Constant) and isinstance(node.value.value, str)


def is_plain(node):
    if isinstance(node, ast.UnaryOp):
        return isinstance(node.op, ast.USub) and isinstance(node.operand, ast.Constant)
    if isinstance(node, ast.Tuple):
        return all(is_plain(part) for part in node.elts)
    return isinstance(node, ast.Constant)


def is_simple(node):
    """What L6 calls SIMPLE, without sums."""
    if isinstance(node, ast.Attribute):
        return is_simple(node.value)
    if isinstance(node, (ast.Tuple, ast.List)):
        return all(is_simple(part) for part in node.elts)
    return isinstance(node, (ast.Name, ast.Constant))


def names_read(node):
    return {part.id for part in ast.walk(node) if isinstance(part, ast.Name) and isinstance(part.ctx, ast.Load)}


def fits(plain, told, call):
    """Whether a call passes each parameter once, but for those with a default value."""
    names = [part.arg for part in plain]
    by_name = [part.arg for part in told.kwonlyargs]
    passed = names[:len(call.args)] + [keyword.arg for keyword in call.keywords]
    must = names[:len(names) - len(told.defaults)]
    must += [name for name, worth in zip(by_name, told.kw_defaults) if worth is None]
    right = len(call.args) <= len(names) and len(passed) == len(set(passed))
    return right and set(passed) <= set(names + by_name) and set(must) <= set(passed)


class Package:
    """What the files bind together: classes, methods, attributes, error classes, who imports whom."""

    def __init__(self, sources):
        self.sources = sources
        self.trees = {name: ast.parse(sources[name]) for name in sources}
        self.nodes = [node for tree in self.trees.values() for node in ast.walk(tree)]
        classes = [node for node in self.nodes if isinstance(node, ast.ClassDef)]
        self.classes = {node.name for node in classes}
        self.methods = {part.name for node in classes for part in node.body if isinstance(part, ast.FunctionDef)}
        self.attributes = {
            node.attr for node in self.nodes if isinstance(node, ast.Attribute) and isinstance(node.ctx, ast.Store)
        }
        self.errors = {
            node.name for node in classes
            if any(isinstance(base, ast.Name) and base.id in ERRORS for base in node.bases)
        }

    def defined(self, name, called):
        """The function or class that is called so in a file, be it its own or imported; None where it is neither."""
        for node in self.trees[name].body:
            if isinstance(node, (ast.FunctionDef, ast.ClassDef)) and node.name == called:
                return node
            if isinstance(node, ast.ImportFrom) and called in [alias.name for alias in node.names]:
                other = (node.module or "")[len(PACKAGE) + 1:]
                return self.defined(other, called) if other in self.trees and other != name else None
        return None

    def methods_called(self, called):
        classes = [node for node in self.nodes if isinstance(node, ast.ClassDef)]
        return [
            part for node in classes for part in node.body
            if isinstance(part, ast.FunctionDef) and part.name == called
        ]

    def imports(self, name):
        return [
            node.module[len(PACKAGE) + 1:] for node in self.trees[name].body
            if isinstance(node, ast.ImportFrom) and node.module and node.module.startswith(PACKAGE + ".")
        ]

    def reached(self, name):
        seen, due = set(), self.imports(name)
        while due:
            other = due.pop()
            if other not in seen and other in self.trees:
                seen.add(other)
                due += self.imports(other)
        return seen


class FileCheck:
    def __init__(self, package, name):
        self.package, self.name = package, name
        self.source, self.tree = package.sources[name], package.trees[name]
        self.found = []
        self.parents = {part: node for node in ast.walk(self.tree) for part in ast.iter_child_nodes(node)}
        self.top = top_names(self.tree)
        self.fixed = {  # names that no parameter or local variable may have
            node.name for node in self.tree.body if isinstance(node, ast.ClassDef)
        } | {
            alias.name for node in self.tree.body if isinstance(node, ast.ImportFrom) for alias in node.names
        }

    def fault(self, rule, node, words):
        line = node if isinstance(node, int) else getattr(node, "lineno", 0)
        self.found.append(f"{rule} {self.name}.py:{line} {words}")

    def run(self):
        self.check_text()
        self.check_tokens()
        self.check_top()
        for node in ast.walk(self.tree):
            if not isinstance(node, ALLOWED_NODES):
                self.fault("L6/L7", node, f"{node.__class__.__name__} is not among what is used here")
            method = getattr(self, "check_" + node.__class__.__name__, None)
            if method:
                method(node)
        return self.found

    def check_text(self):
        rows = self.source.split("\n")
        if len(rows) > 401:
            self.fault("L10", len(rows), "too many lines")
        for number, row in enumerate(rows, start=1):
            if len(row) > 120:
                self.fault("L10", number, "line too long")
            if any(not " " <= sign <= "~" for sign in row):
                self.fault("L14", number, "a sign that is not allowed")
            if BARRED_WORDS.search(row):
                self.fault("L17", number, "a word that is not allowed")
        with warnings.catch_warnings():
            warnings.simplefilter("error")
            try:
                compile(self.source, self.name, "exec")
            except (SyntaxError, Warning) as why:
                self.fault("L27", 0, str(why))

    def check_tokens(self):
        for token in tokenize.generate_tokens(io.StringIO(self.source).readline):
            if token.type == tokenize.STRING:
                line = token.start[0]
                if re.match(r"[A-Za-z]", token.string):
                    self.fault("L7", line, "a string with a letter ahead")
                if "%" in token.string or re.search(r"\\[^nt\\'\"]", token.string.replace("\\\\", "")):
                    self.fault("L27", line, "a sign or an escape in a string")
                if ast.literal_eval(token.string).endswith(("._", ".__")):
                    self.fault("L27", line, "the end of a string")

    def check_top(self):
        ahead = True
        for at, node in enumerate(self.tree.body):
            if isinstance(node, ast.ImportFrom):
                if not ahead:
                    self.fault("L2", node, "an import below other code")
            elif not (at == 0 and is_docstring(node)):
                ahead = False
                if not isinstance(node, (ast.FunctionDef, ast.ClassDef)) and not self.is_constant(node):
                    self.fault("L3", node, "not a function, a class or a plain value")
        if len(self.top) != len(set(self.top)):
            self.fault("L15", 0, "a name bound twice")
        if self.name in self.package.reached(self.name):
            self.fault("L16", 0, "imports itself through others")

    def is_constant(self, node):
        return (
            isinstance(node, ast.Assign) and len(node.targets) == 1 and isinstance(node.targets[0], ast.Name)
            and is_plain(node.value)
        )

    def check_ImportFrom(self, node):
        if self.parents[node] != self.tree or node.level or not (node.module or "").startswith(PACKAGE + "."):
            self.fault("L2", node, "not an import from the package")
            return
        tree = self.package.trees.get(node.module[len(PACKAGE) + 1:])
        for alias in node.names:
            made = [] if tree is None else [
                name for part in tree.body if not isinstance(part, ast.ImportFrom)
                for name in top_names(ast.Module(body=[part], type_ignores=[]))
            ]
            if alias.asname or alias.name not in made:
                self.fault("L16", node, f"{alias.name} is not from the file that defines it")

    def check_Import(self, node):
        self.fault("L2", node, "a module imported as a name")

    def check_name(self, node, name, local=True):
        if not PLAIN_NAME.fullmatch(name):
            self.fault("L12", node, f"{name} is not a plain name")
        if name in BARRED_NAMES:
            self.fault("L17", node, f"{name} is not allowed")
        if name in vars(builtins):
            self.fault("L15", node, f"{name} is a builtin's name")
        if local and name in self.fixed:
            self.fault("L15", node, f"{name} is a class or an import")

    def check_FunctionDef(self, node):
        in_class = isinstance(self.parents[node], ast.ClassDef)
        if not in_class and self.parents[node] != self.tree:
            self.fault("L4", node, "a nested function")
        if not (in_class and node.name in DOUBLE):
            self.check_name(node, node.name, local=False)
        if in_class and node.name not in DOUBLE and node.name in OF_BUILTIN_VALUES:
            self.fault("L26", node, f"{node.name} is a builtin value's")
        if node.end_lineno - node.lineno + 1 > 40:
            self.fault("L10", node, "function too long")
        told = node.args
        if node.decorator_list or node.returns or told.posonlyargs or told.vararg or told.kwarg:
            self.fault("L4", node, "a decorator, an annotation or another kind of parameter")
        for worth in told.defaults + told.kw_defaults:
            if worth is not None and not is_plain(worth):
                self.fault("L4", node, "a default that is not plain")
        if node.name in ("__eq__", "__len__"):
            self.check_short_method(node)
        if node.name == "__init__" and any(isinstance(part, ast.Return) and part.value for part in ast.walk(node)):
            self.fault("L28", node, "__init__ returns something")

    def check_short_method(self, node):
        """Stricter than L28: one return, as all that such a method may do beside it is not checked here."""
        rows = node.body[1:] if is_docstring(node.body[0]) else node.body
        if len(rows) != 1 or not isinstance(rows[0], ast.Return) or rows[0].value is None:
            self.fault("L28", node, f"{node.name} is more than one return")
            return
        called = [part.func for part in ast.walk(rows[0]) if isinstance(part, ast.Call)]
        if any(isinstance(part, ast.Attribute) and part.attr in MODIFY for part in called):
            self.fault("L28", node, f"{node.name} changes something")
        worth = rows[0].value
        by_len = isinstance(worth, ast.Call) and isinstance(worth.func, ast.Name) and worth.func.id == "len"
        if node.name == "__len__" and not by_len:
            self.fault("L28", node, "__len__ returns something else than len(..)")

    def check_arg(self, node):
        self.check_name(node, node.arg)
        if node.annotation:
            self.fault("L21", node, "an annotation")

    def check_ClassDef(self, node):
        self.check_name(node, node.name, local=False)
        if self.parents[node] != self.tree or node.decorator_list or node.keywords or len(node.bases) > 1:
            self.fault("L5", node, "a class that is not plain")
        for base in node.bases:
            if not isinstance(base, ast.Name) or base.id not in ERRORS | self.package.classes:
                self.fault("L18", node, "a base that is not allowed")
        for at, part in enumerate(node.body):
            if not isinstance(part, (ast.FunctionDef, ast.Pass)) and not (at == 0 and is_docstring(part)):
                self.fault("L5", part, "not a method")
        names = [part.name for part in node.body if isinstance(part, ast.FunctionDef)]
        if len(names) != len(set(names)):
            self.fault("L18", node, "a method defined twice")

    def check_Name(self, node):
        if isinstance(node.ctx, ast.Store):
            at_top = isinstance(self.parents[node], ast.Assign) and self.parents[self.parents[node]] == self.tree
            self.check_name(node, node.id, local=not at_top)
        elif node.id in vars(builtins) and node.id not in BUILTINS | ERRORS:
            self.fault("L8", node, f"{node.id} is not among the builtins")
        elif node.id in BUILTINS:
            called = isinstance(self.parents[node], ast.Call) and self.parents[node].func == node
            if not called and not self.is_asked_kind(node):
                self.fault("L22", node, f"{node.id} is not called")
        elif node.id in self.package.classes | ERRORS:
            self.check_class_use(node)

    def is_asked_kind(self, node):
        above = self.parents[node]
        above = self.parents[above] if isinstance(above, ast.Tuple) else above
        return isinstance(above, ast.Call) and isinstance(above.func, ast.Name) and above.func.id == "isinstance"

    def check_class_use(self, node):
        above = self.parents[node]
        right = isinstance(above, (ast.ClassDef, ast.ExceptHandler)) or self.is_asked_kind(node)
        right = right or isinstance(above, ast.Call) and above.func == node
        right = right or isinstance(above, ast.Attribute) and above.attr == "__init__"
        if isinstance(above, ast.Tuple) and isinstance(self.parents[above], ast.ExceptHandler):
            right = True
        if not right:
            self.fault("L18", node, f"{node.id} is used as a value")

    def check_Attribute(self, node):
        own = self.package.methods | self.package.attributes
        if node.attr not in DOUBLE and (not PLAIN_NAME.fullmatch(node.attr) or node.attr in BARRED_NAMES):
            self.fault("L12/L17", node, f"{node.attr} is not allowed")
        if isinstance(node.ctx, ast.Store):
            if node.attr in OF_BUILTIN_VALUES:
                self.fault("L26", node, f"{node.attr} is a builtin value's")
            if node.attr in self.package.methods:
                self.fault("L18", node, f"{node.attr} is a method, too")
            if not isinstance(node.value, ast.Name) or node.value.id in self.top:
                self.fault("L18", node, "an attribute that is not assigned through a local name")
        elif node.attr == "__init__":
            holder = self.parents.get(node)
            if not isinstance(holder, ast.Call) or not holder.args or not isinstance(holder.args[0], ast.Name):
                self.fault("L28", node, "__init__ is not called as Base.__init__(self, ..)")
        elif node.attr in METHODS - own:
            if not isinstance(self.parents[node], ast.Call) or self.parents[node].func != node:
                self.fault("L25", node, f"{node.attr} is not called")
        elif node.attr not in own:
            self.fault("L25", node, f"{node.attr} is neither an own one nor allowed")

    def check_Constant(self, node):
        if node.value is not None and not isinstance(node.value, (bool, int, str)):
            self.fault("L7", node, "a value of a kind that is not used here")

    def check_Call(self, node):
        words = {keyword.arg for keyword in node.keywords}
        if None in words or any(isinstance(part, ast.Starred) for part in node.args):
            self.fault("L7", node, "a call with stars")
        if words & (BARRED_NAMES | {"self"}):
            self.fault("L22", node, "a keyword that is not allowed")
        if isinstance(node.func, ast.Name):
            name = node.func.id
            if name in BUILTINS | ERRORS and not words <= KEYWORDS.get(name, set()):
                self.fault("L22", node, f"a keyword of {name}")
        elif isinstance(node.func, ast.Attribute):
            name = node.func.attr
            if words and (name in METHODS or name == "__init__"):
                self.fault("L22", node, f"a keyword of {name}")
        else:
            name = ""
            self.fault("L7", node, "a call of what is not a name or a method")
        if name in AT_ONCE - self.package.methods and not self.taken_at_once(node):
            self.fault("L23", node, f"{name} is not iterated at once")
        if not self.passes_what_is_taken(node):
            self.fault("L22", node, f"{name} is not passed what it takes")

    def passes_what_is_taken(self, node):
        """Whether a call of an own function, class or method fits; one of a method fits any class's of that name."""
        if isinstance(node.func, ast.Name):
            owner = self.package.defined(self.name, node.func.id)
            if isinstance(owner, ast.FunctionDef):
                return fits(owner.args.args, owner.args, node)
            if isinstance(owner, ast.ClassDef):
                return self.makes(owner, node)
        elif isinstance(node.func, ast.Attribute) and node.func.attr in self.package.methods - DOUBLE - METHODS:
            found = self.package.methods_called(node.func.attr)
            return any(fits(method.args.args[1:], method.args, node) for method in found)
        return True

    def makes(self, owner, node):
        made = [part for part in owner.body if isinstance(part, ast.FunctionDef) and part.name == "__init__"]
        if made:
            return fits(made[0].args.args[1:], made[0].args, node)
        own_base = any(isinstance(base, ast.Name) and base.id in self.package.classes for base in owner.bases)
        return own_base or not node.args and not node.keywords

    def taken_at_once(self, node):
        above = self.parents[node]
        if isinstance(above, (ast.For, ast.comprehension)):
            return above.iter == node
        return (
            isinstance(above, ast.Call) and isinstance(above.func, ast.Name) and above.func.id in TAKE_AT_ONCE
            and node in above.args
        )

    def check_For(self, node):
        self.check_iterated([node.iter], node.body)

    def check_ListComp(self, node):
        self.check_iterated([part.iter for part in node.generators], [node])

    def check_DictComp(self, node):
        self.check_iterated([part.iter for part in node.generators], [node])

    def check_iterated(self, heads, rows):
        named = {
            ast.unparse(part) for head in heads for part in ast.walk(head)
            if isinstance(part, (ast.Name, ast.Attribute))
        }
        for part in (part for row in rows for part in ast.walk(row)):
            changed = None
            if isinstance(part, ast.Call) and isinstance(part.func, ast.Attribute) and part.func.attr in MODIFY:
                changed = part.func.value
            elif isinstance(part, ast.Subscript) and not isinstance(part.ctx, ast.Load):
                changed = part.value
            elif isinstance(part, ast.AugAssign):
                changed = part.target
            if changed is not None and ast.unparse(changed) in named:
                self.fault("L23", part, f"{ast.unparse(changed)} is changed in its own loop")

    def check_Compare(self, node):
        for sign, other in zip(node.ops, node.comparators):
            plain = isinstance(other, ast.Constant) and (other.value is None or isinstance(other.value, bool))
            if isinstance(sign, (ast.Is, ast.IsNot)) and not plain:
                self.fault("L20", node, "is beside something else")

    def check_Expr(self, node):
        above = self.parents[node]
        holds = isinstance(above, (ast.Module, ast.FunctionDef, ast.ClassDef)) and above.body[0] == node
        if not isinstance(node.value, ast.Call) and not (holds and is_docstring(node)):
            self.fault("L6", node, "a value on its own")

    def check_Raise(self, node):
        if node.exc is None:
            return
        made = isinstance(node.exc, ast.Call) and isinstance(node.exc.func, ast.Name)
        if not made or node.exc.func.id not in self.package.errors | ERRORS or node.cause is not None:
            self.fault("L19", node, "not an error made on the spot")

    def check_Try(self, node):
        own = self.package.methods | self.package.attributes
        for row in node.finalbody:
            call = row.value if isinstance(row, ast.Expr) else None
            if not isinstance(call, ast.Call) or not isinstance(call.func, ast.Attribute) or call.keywords:
                self.fault("L6", row, "a finally that does more than to append")
            elif call.func.attr != "append" or call.func.attr in own or not all(map(is_simple, call.args)):
                self.fault("L6", row, "a finally that appends what is not simple")
            elif not is_simple(call.func.value) or not names_read(row) <= self.assigned_ahead_of(node):
                self.fault("L6", row, "a finally that reads what is not assigned ahead of its try")

    def assigned_ahead_of(self, node):
        """The parameters of the function around, and the names that stand alone for what is assigned ahead there."""
        rows = self.parents[node]
        if not isinstance(rows, ast.FunctionDef) or node not in rows.body:
            return set()
        ahead = [row for row in rows.body[:rows.body.index(node)] if isinstance(row, ast.Assign)]
        assigned = {target.id for row in ahead for target in row.targets if isinstance(target, ast.Name)}
        return assigned | {part.arg for part in rows.args.args + rows.args.kwonlyargs}

    def check_ExceptHandler(self, node):
        kinds = node.type.elts if isinstance(node.type, ast.Tuple) else [node.type]
        for kind in kinds:
            if not isinstance(kind, ast.Name) or kind.id not in self.package.errors | FREELY_CAUGHT:
                self.fault("L19", node, "catches what is not an own error")
        if node.name:
            self.check_name(node, node.name)


def file_faults(names):
    """Faults in the names of what stands in the package's folder."""
    found = []
    for name in names:
        stem = name[:-3]
        if not name.endswith(".py") or name != name.lower() or not re.fullmatch(r"[a-z0-9_]+", stem):
            found.append(f"L1 {name}")
        elif BARRED_FILES.fullmatch(stem) or stem in vars(builtins) or stem in BARRED_NAMES:
            found.append(f"L14 {name}")
    if "__init__.py" not in names or len(names) > 100:
        found.append("L14 the folder")
    return found


def source_faults(sources):
    """Faults in the files' sources, by their names without the ending."""
    package = Package(sources)
    return [fault for name in sorted(sources) for fault in FileCheck(package, name).run()]
