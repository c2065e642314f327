"""Finds code of the package that leaves the subset of Python in which it is written.

It is stricter than the rules in places (no generators at all, no sets that are stored):
what it passes is meant to be plain.
"""

import ast
import builtins
import pathlib
import re

PACKAGE = pathlib.Path(__file__).resolve().parent.parent / "sharedunseen"

LIBRARY = {
    "heapq": {"heappush", "heappop", "heapify", "heapreplace", "heappushpop"},
    "math": {"gcd", "lcm", "isqrt", "comb", "perm", "factorial"},
    "itertools": {"product", "combinations", "permutations"},
}
CALLED = set("""len range enumerate zip min max sum abs sorted reversed int str bool list tuple dict set isinstance ord
    repr any all divmod""".split())
ERRORS = {"ValueError", "KeyError"}
METHODS = set("""append clear copy count endswith extend find get index insert isalnum isalpha isdigit islower isspace
    isupper items join keys ljust lower lstrip partition pop remove replace reverse rfind rjust rpartition rsplit rstrip
    setdefault split splitlines startswith strip update upper values zfill bit_length""".split())
DUNDERS = {"__init__", "__eq__"}
BARRED = set("""register mro elements open input law version_info with_traceback add_note attrgetter breakpoint builtins
    compile copyright credits delattr dir eval exec exit gc getattr globals hasattr help id importlib license locals
    methodcaller os quit setattr super type vars sys format format_map args encode decode hex fromhex sort""".split())
BARRED_WORDS = set("""type typing typing_extensions enum Enum IntEnum StrEnum Flag IntFlag Generic Protocol ABC ABCMeta
    namedtuple NamedTuple TypedDict TYPE_CHECKING abstractmethod dataclass overload contextmanager""".split())
STATEMENTS = (ast.Assign, ast.AugAssign, ast.If, ast.While, ast.For, ast.Return, ast.Break, ast.Continue, ast.Pass,
              ast.Raise, ast.Delete, ast.Try, ast.Expr)
VIEWS = {"zip", "enumerate", "reversed", "range", "items", "keys", "values"}
TAKERS = {"list", "tuple", "dict", "sorted", "sum", "any", "all", "enumerate", "zip", "min", "max", "reversed", "len",
          "permutations", "combinations", "product"}
CHANGERS = {"append", "clear", "extend", "insert", "pop", "remove", "reverse", "setdefault", "update"}


def sources():
    """The path and the text of each file of the package."""
    return [(path, path.read_text(encoding="utf-8")) for path in sorted(PACKAGE.glob("*.py"))]


def bound_names(node):
    """The names that a function binds itself."""
    spec = node.args
    names = [arg.arg for arg in spec.posonlyargs + spec.args + spec.kwonlyargs]
    for inner in ast.walk(node):
        if isinstance(inner, ast.Name) and isinstance(inner.ctx, (ast.Store, ast.Del)):
            names.append(inner.id)
        if isinstance(inner, ast.ExceptHandler) and inner.name:
            names.append(inner.name)
        if isinstance(inner, (ast.FunctionDef, ast.Lambda)) and inner is not node:
            names += [arg.arg for arg in inner.args.args]
    return names


class Finder:
    """Collects what is found in one file."""

    def __init__(self, path, text, methods, attributes):
        self.path = path
        self.text = text
        self.tree = ast.parse(text)
        self.methods = methods
        self.attributes = attributes
        self.found = []
        self.parents = {}
        for node in ast.walk(self.tree):
            for child in ast.iter_child_nodes(node):
                self.parents[child] = node

    def tell(self, node, rule):
        self.found.append(f"{self.path.name}:{getattr(node, 'lineno', node)}: {rule}")

    def run(self):
        self.lines()
        self.module()
        for node in ast.walk(self.tree):
            self.node(node)
        return self.found

    def lines(self):
        rows = self.text.split("\n")
        if len(rows) - 1 > 399:
            self.tell(1, "L10 file too long")
        for number, row in enumerate(rows, 1):
            if len(row) > 120:
                self.tell(number, "L10 line too long")
            if any(not " " <= sign <= "~" for sign in row):
                self.tell(number, "L14 sign")

    def module(self):
        imports = set()
        classes = set()
        bound = []
        for node in self.tree.body:
            if isinstance(node, ast.ImportFrom):
                imports |= {name.name for name in node.names}
                bound += [name.name for name in node.names]
                self.imported(node)
            elif isinstance(node, ast.ClassDef):
                classes.add(node.name)
                bound.append(node.name)
            elif isinstance(node, ast.FunctionDef):
                bound.append(node.name)
            elif isinstance(node, ast.Assign) and len(node.targets) == 1 and isinstance(node.targets[0], ast.Name):
                bound.append(node.targets[0].id)
            elif not (isinstance(node, ast.Expr) and isinstance(node.value, ast.Constant)):
                self.tell(node, "L3 statement at module level")
        if len(set(bound)) < len(bound):
            self.tell(1, "L15 bound twice")
        names = set(bound)
        for node in ast.walk(self.tree):
            if isinstance(node, ast.FunctionDef):
                for name in bound_names(node):
                    if name in imports or name in classes or name in names:
                        self.tell(node, f"L15 {name} has another meaning in this file")
        read = {node.id for node in ast.walk(self.tree) if isinstance(node, ast.Name)}
        for name in imports - read:
            self.tell(1, f"unused import {name}")
        known = names | set(CALLED) | ERRORS | {"_"}
        for node in ast.walk(self.tree):
            if isinstance(node, ast.Name) and isinstance(node.ctx, ast.Load) and node.id not in known:
                if not self.is_local(node):
                    self.tell(node, f"L8 {node.id}")

    def is_local(self, node):
        here = self.parents[node]
        while here is not None:
            if isinstance(here, (ast.FunctionDef, ast.Lambda)) and node.id in bound_names(here):
                return True
            here = self.parents.get(here)
        return False

    def imported(self, node):
        names = [name.name for name in node.names]
        if node.level or any(name.asname or name.name == "*" for name in node.names):
            self.tell(node, "L2 import")
        if node.module in LIBRARY:
            if not set(names) <= LIBRARY[node.module]:
                self.tell(node, "L2 library")
            return
        package, _, module = node.module.partition(".")
        path = PACKAGE / (module + ".py")
        if package != "sharedunseen" or not path.exists():
            self.tell(node, "L2 import")
            return
        defined = set()
        for there in ast.parse(path.read_text(encoding="utf-8")).body:
            if isinstance(there, (ast.FunctionDef, ast.ClassDef)):
                defined.add(there.name)
            elif isinstance(there, ast.Assign):
                defined.add(there.targets[0].id)
        if not set(names) <= defined:
            self.tell(node, "L16 import not from the file that defines it")

    def node(self, node):
        if isinstance(node, (ast.GeneratorExp, ast.Yield, ast.YieldFrom, ast.NamedExpr, ast.Await, ast.Starred)):
            self.tell(node, "too much for plain code")
        if isinstance(node, ast.stmt) and not isinstance(node, STATEMENTS):
            if not isinstance(node, (ast.FunctionDef, ast.ClassDef, ast.ImportFrom)):
                self.tell(node, f"L6 {node.__class__.__name__}")
        if isinstance(node, (ast.Set, ast.SetComp)):
            self.tell(node, "L24 set")
        for kind, call in ((ast.FunctionDef, self.function), (ast.ClassDef, self.class_), (ast.Call, self.call),
                           (ast.Constant, self.constant), (ast.Attribute, self.attribute), (ast.Name, self.name),
                           (ast.BinOp, self.operation), (ast.Compare, self.compare), (ast.For, self.loop),
                           (ast.comprehension, self.loop), (ast.Try, self.attempt), (ast.Raise, self.raised)):
            if isinstance(node, kind):
                call(node)

    def function(self, node):
        if node.end_lineno - node.lineno + 1 > 40:
            self.tell(node, "L10 function too long")
        if node.decorator_list:
            self.tell(node, "L4 decorator")
        if node.name.startswith("__") and node.name not in DUNDERS:
            self.tell(node, "L5 method")
        if node.name in BARRED or node.name not in DUNDERS and hasattr(builtins, node.name):
            self.tell(node, "L15 name of a builtin")
        if not ast.get_docstring(node) and node.name not in DUNDERS:
            self.tell(node, "no docstring")
        for name in bound_names(node):
            if name != "_" and (name in BARRED or hasattr(builtins, name) or name.startswith("__")):
                self.tell(node, f"L15 {name}")
        if not isinstance(self.parents[node], (ast.Module, ast.ClassDef)):
            self.tell(node, "nested function")

    def class_(self, node):
        if node.decorator_list or node.keywords:
            self.tell(node, "L5 class")
        for inner in node.body:
            plain = isinstance(inner, ast.Expr) and isinstance(inner.value, ast.Constant)
            if not isinstance(inner, ast.FunctionDef) and not plain:
                self.tell(inner, "L5 class body")

    def call(self, node):
        if isinstance(node.func, ast.Name):
            word = node.func.id
            if word in CALLED:
                allowed = {"sorted": {"key", "reverse"}, "min": {"key", "default"}, "max": {"key", "default"}}
                if not {key.arg for key in node.keywords} <= allowed.get(word, set()):
                    self.tell(node, "L22 keyword")
            if word == "set":
                parent = self.parents[node]
                good = isinstance(parent, ast.Call) and getattr(parent.func, "id", "") in ("sorted", "len")
                if not good or len(node.args) != 1:
                    self.tell(node, "L24 set")
            if word in VIEWS:
                self.view(node)
        elif isinstance(node.func, ast.Attribute):
            word = node.func.attr
            if word not in METHODS and word not in self.methods:
                self.tell(node, f"L25 method {word}")
            if word in METHODS and node.keywords:
                self.tell(node, "L25 keyword")
            if word in VIEWS and word not in self.methods:
                self.view(node)
        else:
            self.tell(node, "call of a value")

    def view(self, node):
        parent = self.parents[node]
        if isinstance(parent, (ast.For, ast.comprehension)) and parent.iter is node:
            return
        if isinstance(parent, ast.Call) and getattr(parent.func, "id", "") in TAKERS and node in parent.args:
            return
        if isinstance(parent, ast.Assign) and getattr(node.func, "id", "") == "range":
            return
        self.tell(node, "L23 not iterated at once")

    def constant(self, node):
        if isinstance(node.value, (float, complex, bytes)):
            self.tell(node, "L7 value")
        if isinstance(node.value, str):
            if "%" in node.value or node.value.endswith(("._", ".__")):
                self.tell(node, "L27 string")
            is_told = isinstance(self.parents[node], ast.Expr)
            if not is_told and set(re.findall(r"\w+", node.value)) & BARRED_WORDS:
                self.tell(node, "L17 word")

    def attribute(self, node):
        if node.attr in BARRED or not re.fullmatch(r"_?[A-Za-z][A-Za-z0-9_]*|__init__", node.attr):
            self.tell(node, f"L17 attribute {node.attr}")
        called = isinstance(self.parents[node], ast.Call) and self.parents[node].func is node
        if not called and node.attr not in self.attributes:
            self.tell(node, f"L18 attribute {node.attr}")

    def name(self, node):
        if node.id in BARRED or node.id in BARRED_WORDS:
            self.tell(node, f"L17 {node.id}")
        if node.id == "_" and isinstance(node.ctx, ast.Load):
            self.tell(node, "L12 _ is read")
        if node.id in CALLED and not isinstance(node.ctx, ast.Store):
            parent = self.parents[node]
            called = isinstance(parent, ast.Call)
            if not called and not isinstance(parent, ast.Tuple):
                self.tell(node, "L22 builtin as a value")

    def operation(self, node):
        if isinstance(node.op, (ast.Div, ast.MatMult)):
            self.tell(node, "L7 sign")
        if isinstance(node.op, ast.Pow) and not isinstance(node.right, ast.Constant):
            self.tell(node, "L27 exponent")

    def compare(self, node):
        for sign, right in zip(node.ops, node.comparators):
            if isinstance(sign, (ast.Is, ast.IsNot)):
                if not (isinstance(right, ast.Constant) and right.value in (None, True, False)):
                    self.tell(node, "L20 is")

    def loop(self, node):
        names = {inner.id for inner in ast.walk(node.iter) if isinstance(inner, ast.Name)}
        rows = node.body if isinstance(node, ast.For) else [self.parents[node]]
        for row in rows:
            for inner in ast.walk(row):
                changed = None
                if isinstance(inner, ast.Call) and isinstance(inner.func, ast.Attribute) and inner.func.attr in CHANGERS:
                    changed = inner.func.value
                if isinstance(inner, ast.Subscript) and isinstance(inner.ctx, (ast.Store, ast.Del)):
                    changed = inner
                if isinstance(node, ast.For) and isinstance(inner, ast.Name) and isinstance(inner.ctx, ast.Store):
                    changed = inner
                while isinstance(changed, (ast.Subscript, ast.Attribute)):
                    changed = changed.value
                if isinstance(changed, ast.Name) and changed.id in names:
                    self.tell(inner, f"L23 {changed.id} is changed while it is iterated over")

    def attempt(self, node):
        for handler in node.handlers:
            if not isinstance(handler.type, ast.Name) or handler.type.id in dir(builtins):
                self.tell(handler, "L19 handler")
        if node.finalbody:
            self.tell(node, "L6 finally")

    def raised(self, node):
        if not (isinstance(node.exc, ast.Call) and isinstance(node.exc.func, ast.Name)):
            self.tell(node, "L19 raise")


def cycle(graph):
    """Some module that imports itself through others, or None."""
    left = dict(graph)
    while left:
        free = [name for name, wanted in left.items() if not wanted & set(left)]
        if not free:
            return sorted(left)[0]
        for name in free:
            del left[name]
    return None


def findings():
    """All that is found in the package."""
    files = sources()
    methods, attributes, graph = set(), set(), {}
    for path, text in files:
        tree = ast.parse(text)
        for node in ast.walk(tree):
            if isinstance(node, ast.ClassDef):
                own = {inner.name for inner in node.body if isinstance(inner, ast.FunctionDef)}
                methods |= own
                set_here = {inner.attr for inner in ast.walk(node)
                            if isinstance(inner, ast.Attribute) and isinstance(inner.ctx, ast.Store)}
                attributes |= set_here
                if own & set_here:
                    return [f"{path.name}: L18 a method and an attribute of one name"]
        graph[path.stem] = {node.module.partition(".")[2] for node in tree.body if isinstance(node, ast.ImportFrom)}
    found = []
    for path, text in files:
        found += Finder(path, text, methods, attributes).run()
    if cycle({name: wanted & set(graph) for name, wanted in graph.items()}):
        found.append("L16 files import from each other")
    for path in PACKAGE.rglob("*"):
        if "__pycache__" not in path.parts and (path.suffix != ".py" or path.parent != PACKAGE):
            found.append(f"L1 {path}")
        if path.suffix == ".py" and not re.fullmatch(r"[a-z][a-z0-9_]*|__init__|__main__", path.stem):
            found.append(f"L1 {path}")
    return found
