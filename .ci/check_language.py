"""Check the package against the rules of LANGUAGE.md that can be counted or read off.

It finds slips early; a package that it accepts can still break a rule.
"""

import ast
import builtins
import sys
from pathlib import Path

ROOT = Path(__file__).resolve().parent.parent
PACKAGE = ROOT / "extralink"
LIBRARY = {
    "heapq": {"heappush", "heappop", "heapify", "heapreplace", "heappushpop"},
    "math": {"gcd", "lcm", "isqrt", "comb", "perm", "factorial"},
    "itertools": {"product", "combinations", "permutations", "chain", "accumulate", "pairwise", "islice", "zip_longest"},
    "collections": {"defaultdict"},
}
BARRED = (ast.Global, ast.AsyncFunctionDef, ast.AsyncFor, ast.AsyncWith, ast.Await)


def files():
    return [path for path in sorted(PACKAGE.rglob("*")) if "__pycache__" not in path.parts]


def check_rows(text):
    """L10, L14 and L27: sizes and characters."""
    rows = text.split("\n")
    if len(rows) - 1 > 399:
        yield 1, "L10: more than 399 lines"
    for number, row in enumerate(rows, 1):
        if len(row) > 120:
            yield number, "L10: more than 120 characters"
        if any(not " " <= char <= "~" for char in row):
            yield number, "L14: a character that is not allowed"


def imported(node):
    if isinstance(node, ast.Import):
        return "L16: import without from"
    names = {alias.name for alias in node.names}
    if node.level or "*" in names or any(alias.asname for alias in node.names if node.module in LIBRARY):
        return "L2: form of an import"
    if node.module in LIBRARY:
        return None if names <= LIBRARY[node.module] else "L2: not in the list of the library"
    if node.module == "__future__" and names == {"annotations"}:
        return None
    return None if node.module.startswith("extralink.") else "L2: import from outside"


def named(node):
    """The names that a node gives to something; a method may have any."""
    if isinstance(node, ast.Name) and isinstance(node.ctx, ast.Store):
        return [node.id]
    if isinstance(node, ast.Module):
        return [part.name for part in node.body if isinstance(part, (ast.FunctionDef, ast.ClassDef))]
    return [node.arg] if isinstance(node, ast.arg) else []


def check_objects(node):
    """What the rules bar because the package has operators, == and indexes."""
    if isinstance(node, ast.GeneratorExp):
        return "L7: a generator expression beside classes with __eq__"
    if isinstance(node, ast.AugAssign):
        value = node.value.value if isinstance(node.value, ast.Constant) else None
        return None if isinstance(value, int) else "L5: += of something else than an integer literal"
    if isinstance(node, ast.Attribute) and node.attr == "sort":
        return "L25: .sort beside classes with __eq__"
    if isinstance(node, ast.ClassDef):
        methods = {part.name for part in node.body if isinstance(part, ast.FunctionDef)}
        return "L5: __getitem__ without __iter__" if {"__getitem__"} == methods & {"__getitem__", "__iter__"} else None
    return None


def check_node(node):
    if isinstance(node, (ast.Import, ast.ImportFrom)):
        return imported(node)
    if any(hasattr(builtins, name) for name in named(node)):
        return "L15: the name of a builtin"
    if isinstance(node, ast.FunctionDef) and node.end_lineno - node.lineno + 1 > 40:
        return "L10: a function of more than 40 lines"
    if isinstance(node, ast.Constant):
        if isinstance(node.value, (float, complex)):
            return "L7: a float"
        if isinstance(node.value, str) and "%" in node.value:
            return "L27: % in a string"
    if isinstance(node, ast.ClassDef) and node.decorator_list:
        return "L5: a decorator over a class"
    if isinstance(node, BARRED):
        return "L6: " + node.__class__.__name__
    if isinstance(getattr(node, "op", None), (ast.Div, ast.MatMult)):
        return "L7: an operator that is not allowed"
    return check_objects(node)


def check_tree(tree):
    for node in ast.walk(tree):
        wrong = check_node(node)
        if wrong:
            yield getattr(node, "lineno", 0), wrong
    yield from check_bindings(tree)


def check_bindings(tree):
    """L15: no parameter and no local variable has the name of a class or an import of its file."""
    taken = {node.name for node in tree.body if isinstance(node, ast.ClassDef)}
    for node in tree.body:
        if isinstance(node, ast.ImportFrom):
            taken.update(alias.asname or alias.name for alias in node.names)
    for node in ast.walk(tree):
        if not isinstance(node, ast.Module) and taken & set(named(node)):
            yield node.lineno, "L15: the name of a class or an import"


def check_properties(trees):
    """L5: no property has the name of a method, in whichever class that stands."""
    found = {True: set(), False: set()}
    for tree in trees:
        for node in ast.walk(tree):
            for part in node.body if isinstance(node, ast.ClassDef) else []:
                if isinstance(part, ast.FunctionDef):
                    marks = {getattr(mark, "id", None) or mark.attr for mark in part.decorator_list}
                    found[bool(marks & {"property", "setter"})].add(part.name)
    return [f"L5: {name} is a property and a method" for name in sorted(found[True] & found[False])]


def check_file(path):
    if path.is_dir():
        return [] if (path / "__init__.py").exists() else [(0, "L14: no __init__.py")]
    if path.suffix != ".py" or path.name != path.name.lower():
        return [(0, "L1: the package holds .py files only")]
    text = path.read_text(encoding="utf-8")
    return list(check_rows(text)) + list(check_tree(ast.parse(text)))


def main():
    slips = [(path, number, wrong) for path in files() for number, wrong in check_file(path)]
    trees = [ast.parse(path.read_text(encoding="utf-8")) for path in files() if path.suffix == ".py"]
    slips += [(PACKAGE, 0, wrong) for wrong in check_properties(trees)]
    for path, number, wrong in slips:
        print(f"{path.relative_to(ROOT)}:{number}: {wrong}")
    return 1 if slips else 0


if __name__ == "__main__":
    sys.exit(main())
