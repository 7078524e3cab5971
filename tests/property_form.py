"""What properties, and the double-underscore methods that are held to the same form, do on their
way: LANGUAGE.md, L5 Properties, as far as names in the code can tell."""

import ast

LIKE_PROPERTIES = ("__eq__", "__str__", "__repr__", "__len__")
MODIFIERS = (
    "append", "clear", "extend", "insert", "pop", "remove", "reverse", "setdefault", "update",
    "sort", "add", "discard")
MAKERS = ("list", "dict", "sorted")
BUILTINS = (
    "len", "range", "enumerate", "zip", "min", "max", "sum", "abs", "sorted", "reversed", "int",
    "str", "bool", "list", "tuple", "dict", "set", "isinstance", "ord", "repr", "any", "all",
    "divmod")


class Package:
    """The functions, methods, properties and attributes of some source texts."""

    def __init__(self, texts):
        self.functions, self.methods, self.properties, self.like = {}, {}, {}, []
        self.attributes = set()
        for text in texts:
            tree = ast.parse(text)
            self.read(tree)
            self.attributes |= {
                node.attr for node in ast.walk(tree)
                if isinstance(node, ast.Attribute) and isinstance(node.ctx, ast.Store)}

    def read(self, tree):
        for node in tree.body:
            if isinstance(node, ast.FunctionDef):
                self.functions.setdefault(node.name, []).append(node)
            if isinstance(node, ast.ClassDef):
                for child in node.body:
                    if isinstance(child, ast.FunctionDef):
                        self.read_method(child)

    def read_method(self, node):
        decorators = [ast.unparse(decorator) for decorator in node.decorator_list]
        if "property" in decorators:
            self.properties.setdefault(node.name, []).append(node)
        elif not any(decorator.endswith(".setter") for decorator in decorators):
            self.methods.setdefault(node.name, []).append(node)
        if node.name in LIKE_PROPERTIES:
            self.like.append(node)

    def roots(self):
        """Return the properties that are read, and the methods that are held to their form."""
        return [node for nodes in self.properties.values() for node in nodes] + self.like

    def reached(self, root):
        """Return all functions that the root calls or reads, itself among them."""
        found, todo = [], [root]
        while todo:
            node = todo.pop()
            if node not in found:
                found.append(node)
                todo += self.next_to(node)
        return found

    def next_to(self, function):
        """Return the functions, methods and properties whose names a function uses."""
        found = []
        for node in ast.walk(function):
            if isinstance(node, ast.Name):
                found += self.functions.get(node.id, [])
            elif isinstance(node, ast.Attribute):
                found += self.methods.get(node.attr, [])
                found += self.properties.get(node.attr, [])
        return found

    def faults(self):
        """Return (root, function, text of the wrong piece) of all that is not of the form."""
        return sorted({
            (root.name, function.name, piece)
            for root in self.roots()
            for function in self.reached(root)
            for piece in self.wrong_pieces(function)})

    def wrong_pieces(self, function):
        """Return the texts of the pieces of a function that are not of the form."""
        own = made_lists(function)
        return [
            ast.unparse(node) for node in ast.walk(function)
            if isinstance(node, ast.Call) and self.is_wrong_call(node, own)
            or is_wrong_target(node, own)
            or isinstance(node, ast.AugAssign) and not is_plain_step(node)]

    def is_wrong_call(self, call, own):
        if isinstance(call.func, ast.Attribute):
            name = call.func.attr
            if name in self.attributes:
                return True
            return name in MODIFIERS and ast.unparse(call.func.value) not in own
        if isinstance(call.func, ast.Name):
            return call.func.id not in self.functions and call.func.id not in BUILTINS
        return True


def made_lists(function):
    """Return the names that a function assigns nothing but lists and dicts that it makes."""
    assigned = {}
    for node in ast.walk(function):
        if isinstance(node, ast.Assign):
            for target in node.targets:
                assigned.setdefault(ast.unparse(target), []).append(node.value)
    handed = [argument.arg for argument in ast.walk(function.args) if isinstance(argument, ast.arg)]
    return [
        name for name, values in assigned.items()
        if name not in handed and all(is_made(value) for value in values)]


def is_made(value):
    if isinstance(value, ast.Call) and isinstance(value.func, ast.Name):
        return value.func.id in MAKERS
    return isinstance(value, (ast.List, ast.Dict, ast.ListComp))


def is_wrong_target(node, own):
    """Return whether a node is an attribute or an item, not of an own list, that is changed."""
    if isinstance(node, ast.Attribute):
        return not isinstance(node.ctx, ast.Load)
    if isinstance(node, ast.Subscript) and not isinstance(node.ctx, ast.Load):
        return ast.unparse(node.value) not in own
    return False


def is_plain_step(node):
    """Return whether a += or the like adds a literal integer to a local name."""
    return (
        isinstance(node.target, ast.Name)
        and isinstance(node.value, ast.Constant)
        and isinstance(node.value.value, int))
