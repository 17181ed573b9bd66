"""The form of the package: the rules of LANGUAGE.md that can be seen easily, and the interface."""

import ast
import builtins
import pathlib
import re
import unittest

PACKAGE = pathlib.Path(__file__).resolve().parent.parent / 'deadrules'

BUILTINS = set('''len range enumerate zip min max sum abs sorted reversed int str bool bytes list tuple dict set frozenset
    isinstance ord repr any all divmod pow getattr hasattr setattr iter next map super property staticmethod classmethod
    Exception ValueError TypeError KeyError IndexError LookupError ZeroDivisionError ArithmeticError OverflowError
    RuntimeError NotImplementedError AttributeError StopIteration NotImplemented'''.split())
METHODS = set('''append clear copy count endswith extend find get index insert isalnum isalpha isdigit islower isspace
    isupper items join keys ljust lower lstrip partition pop remove replace reverse rfind rjust rpartition rsplit rstrip
    setdefault split splitlines startswith strip update upper values zfill bit_length add discard'''.split())
# An interactive session, and so a doctest, leaves its last value there as `_`.
ALL_BUILTINS = set(dir(builtins)) - {'_'}
LIBRARY = {'heapq': set('heappush heappop heapify heapreplace heappushpop'.split()),
           'math': set('gcd lcm isqrt comb perm factorial'.split())}
DOUBLE = set('''__init__ __eq__ __repr__ __str__ __len__ __enter__ __exit__ __call__ __iter__ __contains__ __or__
    '''.split())
STATEMENTS = (ast.Assign, ast.AugAssign, ast.If, ast.While, ast.For, ast.Return, ast.Break, ast.Continue, ast.Pass,
              ast.Raise, ast.Assert, ast.Delete, ast.With, ast.Try, ast.Expr, ast.FunctionDef, ast.ClassDef,
              ast.ImportFrom)
UNUSED = set('''register mro elements open input law version_info with_traceback add_note breakpoint compile delattr dir
    eval exec exit gc globals hash help id importlib license locals methodcaller os quit type vars'''.split())
WORDS = re.compile(r'\b(type|typing|enum|Enum|Generic|Protocol|ABC|namedtuple|NamedTuple|abstractmethod)\b|dataclass'
                   r'|overload|contextmanager')
NO_ATTRIBUTES = set('''items keys values pop update append clear extend insert remove reverse setdefault sort args encode
    decode hex fromhex format'''.split())

# What has landed: for each module its functions and classes, with the parameters of each.
INTERFACE = {
    'errors': {name: {'__init__': [field]} for name, field in [
        ('ParseError', 'line'), ('InvalidText', 'value'), ('InvalidPath', 'path'), ('InvalidNumber', 'value'),
        ('InvalidPart', 'value'), ('InvalidName', 'name'), ('InvalidPiece', 'value'), ('InvalidPaper', 'value'),
        ('InvalidSheets', 'value'), ('InvalidDocument', 'path'), ('InvalidCommand', 'value'),
        ('LimitExceeded', 'limit'), ('NothingToUndo', 'amount'), ('DraftClosed', 'name')]},
    'documents': {'parse_document': ['text'], 'Document': {
        'text': [], 'size': [], 'kind': ['path'], 'marks': ['path'], 'width': ['path'], 'part': ['path'],
        'inserted': ['path', 'index', 'part'], 'removed': ['path'], 'renamed': ['path', 'kind'],
        'marked': ['path', 'marks'], '__iter__': [], '__contains__': ['path'], '__eq__': ['other']}},
    'grammars': {'parse_grammar': ['text'], 'Grammar': {
        'text': [], 'root': [], 'kinds': [], 'fits': ['kind', 'kinds'], 'first_wrong': ['document'], 'least': ['kind'],
        'documents': ['most']}},
    'selectors': {'parse_selector': ['text'], 'Selector': {
        'text': [], 'weight': [], 'found': ['document'], 'fits': ['document', 'path'], 'on': ['document'],
        '__or__': ['other'], '__eq__': ['other']},
        'Selection': {'texts': [], 'found': ['document'], 'on': ['document'], '__or__': ['other']},
        'Found': {'__iter__': [], '__contains__': ['path']}},
    'sheets': {'parse_sheet': ['text'], 'Sheet': {
        'text': [], 'names': [], 'rules': [], 'pieces': [], 'only': ['pieces'], '__eq__': ['other']}},
    'styles': {'styles': ['document', 'sheet'], 'winners': ['document', 'sheet', 'path'],
               'matching': ['document', 'sheet', 'path']},
    'answers': {'can_match': ['grammar', 'sheet', 'rule'], 'can_meet': ['grammar', 'sheet', 'rule', 'other'],
                'can_win': ['grammar', 'sheet', 'rule', 'name'],
                'can_have': ['grammar', 'sheet', 'kind', 'name', 'value'],
                'all_values': ['grammar', 'sheet', 'kind', 'name'], 'dead_rules': ['grammar', 'sheet'],
                'idle_pieces': ['grammar', 'sheet'], 'died': ['old', 'new', 'sheet']},
    'papers': {'state': ['sheet', 'document', 'path'], 'paper': ['grammar', 'sheet'],
               'check_paper': ['grammar', 'sheet', 'value'], 'denied': ['grammar', 'sheet', 'value']},
    'least': {'conditions': ['grammar', 'sheet'], 'least_pieces': ['grammar', 'sheet'],
              'least_sheet': ['grammar', 'sheet'], 'needed': ['grammar', 'sheet', 'piece'],
              'check_kept': ['grammar', 'sheet', 'pieces']},
    'comparing': {'parting': ['grammar', 'one', 'two'], 'parting_of': ['grammar', 'one', 'two', 'name']},
    'shorter': {'moves': ['sheet'], 'shorter': ['grammar', 'sheet']},
    'sittings': {'apply_edits': ['sitting', 'edits'], 'Sitting': {
        '__init__': ['grammar', 'sheet', 'document'], 'grammar': [], 'sheet': [], 'document': [], 'edit': ['document'],
        'restyle': ['sheet'], 'styles': [], 'changed': [], 'touched': [], 'undo': ['amount'], 'redo': ['amount'],
        'draft': [], 'clone': [], '__eq__': ['other'], '__len__': []},
        'Draft': {'put': ['path', 'index', 'text'], 'drop': ['path'], 'rename': ['path', 'kind'], 'mark': ['path', 'marks'],
                  'commit': [], '__enter__': [], '__exit__': ['kind', 'value', 'trace']}},
    'console': {'Console': {'__init__': ['sitting'], 'execute': ['command'], '__len__': []}},
}


def files():
    return sorted(PACKAGE.glob('*.py'))


def trees():
    return {path.stem: ast.parse(path.read_text()) for path in files()}


def functions(tree):
    return [node for node in ast.walk(tree) if isinstance(node, ast.FunctionDef)]


def classes(tree):
    return [node for node in tree.body if isinstance(node, ast.ClassDef)]


def parameters(function):
    return [one.arg for one in function.args.posonlyargs + function.args.args + function.args.kwonlyargs]


def starred_indexes(tree):
    """Return the indexes, of targets and of values, in which a star stands."""
    indexes = [node.slice for node in ast.walk(tree) if isinstance(node, ast.Subscript)]
    return [ast.unparse(one) for one in indexes if any(isinstance(node, ast.Starred) for node in ast.walk(one))]


class FormTest(unittest.TestCase):
    def test_folder(self):
        self.assertTrue((PACKAGE / '__init__.py').exists())
        for path in PACKAGE.iterdir():
            if path.name != '__pycache__':
                self.assertRegex(path.name, r'^[a-z0-9_]+\.py$')

    def test_characters_and_sizes(self):
        for path in files():
            text = path.read_text()
            self.assertRegex(text, r'^[\n -~]*\Z', path)
            self.assertTrue(text.endswith('\n'), path)
            self.assertLessEqual(len(text.splitlines()), 399, path)
            for line in text.splitlines():
                self.assertLessEqual(len(line), 120, path)
                self.assertEqual(line, line.rstrip(), path)
            for function in functions(ast.parse(text)):
                self.assertLessEqual(function.end_lineno - function.lineno + 1, 40, function.name)

    def test_imports(self):
        found = trees()
        for name, tree in found.items():
            heads = [node for node in tree.body if isinstance(node, ast.ImportFrom)]
            every = [node for node in ast.walk(tree) if isinstance(node, (ast.Import, ast.ImportFrom))]
            self.assertEqual(len(heads), len(every), name)
            self.assertEqual(heads, [node for node in tree.body[1:1 + len(heads)]], name)
            for node in heads:
                names = {one.name for one in node.names}
                self.assertTrue(all(one.asname is None for one in node.names), name)
                if node.module in LIBRARY:
                    self.assertLessEqual(names, LIBRARY[node.module])
                    continue
                self.assertTrue(node.module.startswith('deadrules.'), node.module)
                self.assertLessEqual(names, self.bound(found[node.module.split('.')[1]]), node.module)

    def bound(self, tree):
        """Return the names that a module defines itself."""
        names = [node.name for node in tree.body if isinstance(node, (ast.FunctionDef, ast.ClassDef))]
        names += [node.targets[0].id for node in tree.body if isinstance(node, ast.Assign)]
        self.assertEqual(len(names), len(set(names)))
        return set(names)

    def test_no_circles_of_imports(self):
        needs = {name: {node.module.split('.')[1] for node in tree.body if isinstance(node, ast.ImportFrom)
                        and node.module.startswith('deadrules')} for name, tree in trees().items()}
        while needs:
            free = [name for name in needs if not needs[name] & set(needs)]
            self.assertTrue(free, needs)
            for name in free:
                del needs[name]

    def test_every_import_is_used(self):
        for name, tree in trees().items():
            used = {node.id for node in ast.walk(tree) if isinstance(node, ast.Name)}
            for node in tree.body:
                if isinstance(node, ast.ImportFrom):
                    self.assertLessEqual({one.name for one in node.names}, used, name)

    def test_module_level(self):
        for name, tree in trees().items():
            for node in tree.body:
                if isinstance(node, ast.Expr):
                    self.assertIsInstance(node.value, ast.Constant, name)
                elif isinstance(node, ast.Assign):
                    self.assertIsInstance(node.targets[0], ast.Name, name)
                    calls = [one for one in ast.walk(node) if isinstance(one, (ast.Call, ast.ListComp, ast.Lambda))]
                    self.assertEqual(calls, [], name)
                else:
                    self.assertIsInstance(node, (ast.ImportFrom, ast.FunctionDef, ast.ClassDef), name)

    def test_statements_and_expressions(self):
        for name, tree in trees().items():
            for node in ast.walk(tree):
                if isinstance(node, ast.stmt):
                    self.assertIsInstance(node, STATEMENTS, name)
                self.assertNotIsInstance(node, (ast.Div, ast.MatMult, ast.Yield, ast.YieldFrom, ast.Await), name)
                if isinstance(node, ast.Constant):
                    self.assertNotIsInstance(node.value, (float, complex))
                    if isinstance(node.value, str):
                        self.assertNotIn('%', node.value)

    def test_no_star_in_an_index(self):
        for name, tree in trees().items():
            self.assertEqual(starred_indexes(tree), [], name)

    def test_starred_indexes_are_seen(self):
        for text in ['d[(*a, b)]', 'd[(*a, b)] = 1', 'd[*a, b] += 1', 'd[1][[(*a,)]]', 'del d[(b, (*a,))]', 'd[f(*a)]',
                     'x = [d[(*a, 1)] for a in b]', 'd[(*a, 1)].append(2)']:
            self.assertEqual(len(starred_indexes(ast.parse(text))), 1, text)
        for text in ['k = (*a, b)', 'x = [*d[a], *b[1:]]', 'first, *rest = d[a]', 'f(*d[a])', 'd[a] = (*b, *c)']:
            self.assertEqual(starred_indexes(ast.parse(text)), [], text)

    def test_names(self):
        for name, tree in trees().items():
            own = {node.id for node in ast.walk(tree) if isinstance(node, ast.Name) and isinstance(node.ctx, ast.Store)}
            own |= {one for function in functions(tree) for one in parameters(function)}
            self.assertEqual(own & (ALL_BUILTINS | UNUSED), set(), name)
            imported = {one.name for node in tree.body if isinstance(node, ast.ImportFrom) for one in node.names}
            self.assertEqual(own & (imported | {node.name for node in classes(tree)}), set(), name)
            loaded = {node.id for node in ast.walk(tree) if isinstance(node, ast.Name)}
            self.assertLessEqual(loaded & ALL_BUILTINS, BUILTINS, name)
            for one in own | {function.name for function in functions(tree)} - DOUBLE:
                self.assertRegex(one, r'^(_|_?[A-Za-z][A-Za-z0-9_]*)$', name)
            text = re.sub(r'#.*', '', ast.unparse(self.without_docstrings(tree)))
            self.assertIsNone(WORDS.search(text), name)

    def without_docstrings(self, tree):
        for node in ast.walk(tree):
            if isinstance(node, (ast.FunctionDef, ast.ClassDef, ast.Module)) and ast.get_docstring(node) is not None:
                node.body = node.body[1:] or [ast.Pass()]
        return tree

    def test_attributes_and_methods(self):
        attributes, methods, properties = set(), set(), set()
        for tree in trees().values():
            attributes |= {node.attr for node in ast.walk(tree) if isinstance(node, ast.Attribute)
                           and isinstance(node.ctx, ast.Store)}
            for owner in classes(tree):
                for function in functions(owner):
                    (properties if function.decorator_list else methods).add(function.name)
        self.assertEqual(attributes & NO_ATTRIBUTES, set())
        self.assertEqual(properties & (attributes | methods), set())
        for name, tree in trees().items():
            for node in ast.walk(tree):
                if isinstance(node, ast.Attribute):
                    self.assertIn(node.attr, attributes | methods | properties | METHODS, name)

    def test_classes(self):
        for name, tree in trees().items():
            for owner in classes(tree):
                self.assertEqual(owner.decorator_list, [])
                for node in owner.body:
                    self.assertIsInstance(node, (ast.FunctionDef, ast.Expr, ast.Assign), owner.name)
                for function in functions(owner):
                    for decorator in function.decorator_list:
                        self.assertEqual(ast.unparse(decorator), 'property')
                    if function.name.startswith('__'):
                        self.assertIn(function.name, DOUBLE)

    def test_docstrings(self):
        for name, tree in trees().items():
            self.assertIsNotNone(ast.get_docstring(tree), name)
            for node in [*classes(tree), *[one for one in tree.body if isinstance(one, ast.FunctionDef)]]:
                self.assertIsNotNone(ast.get_docstring(node), node.name)

    def test_interface(self):
        found = trees()
        for module, listed in INTERFACE.items():
            nodes = {node.name: node for node in found[module].body if isinstance(node, (ast.FunctionDef, ast.ClassDef))}
            for name, wanted in listed.items():
                self.assertIn(name, nodes)
                if isinstance(wanted, list):
                    self.assertEqual(parameters(nodes[name]), wanted)
                    continue
                methods = {function.name: function for function in functions(nodes[name])}
                for method, arguments in wanted.items():
                    self.assertIn(method, methods, name)
                    self.assertEqual(parameters(methods[method])[1:], arguments, (name, method))


if __name__ == '__main__':
    unittest.main()
