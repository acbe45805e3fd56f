"""Point 2: what the interface lists stands where it is listed, and is called by the names of its parameters."""

import ast
import importlib
import pathlib
import unittest

from farmisses import errors

FOLDER = pathlib.Path(__file__).resolve().parent.parent / "farmisses"
FUNCTIONS = {
    "texts": "is_name(value) parse(text) parse_size(text) parse_block(text)",
    "printing": "show(tree) show_size(parts)",
    "ranges": "fits(program,n)",
    "machine": "accesses(program,n) plain(program,cache,n)",
    "walks": "count(program,cache,n) length(program,cache,n) count_upto(program,cache,n,time) "
             "contents(program,cache,n,time) lost(program,cache,n,time)",
    "papers": "paper(program,cache,n) told_count(program,cache,n,value) told_steps(program,cache,n,value)",
    "formulas": "formula(program,cache) told_formula(program,cache,value)",
    "costs": "cost(cache,tally,weights=None) costs(formula,weights=None)",
    "orders": "nest(program) permutations(items) reordered(program,order) clash(program,n,order) is_legal(program,n,order) "
              "is_clash(program,n,order,value) legal_orders(program,n)",
    "blocks": "blocked(program,counter,size,outer) cut(program,cutting)",
    "best": "choices(program,cuttings=((),)) variant(program,choice,cuttings=((),)) "
            "best(program,cache,n,cuttings=((),),*,weights=None) best_paper(program,cache,n,cuttings=((),),*,weights=None) "
            "told_best(program,cache,n,value,cuttings=((),),*,weights=None)",
    "journals": "event_text(event) read_event(text) journal_text(events) appended(text,event) recovered(text) "
                "recovered_session(program,cache,n,text)",
    "ledgers": "ledger(session) is_ledger(program,cache,n,value)",
    "questions": "where(**wanted) read_condition(text) rows_of(program,cache,n) selected(program,cache,n,condition) "
                 "ask(program,cache,n,text)",
}
CLASSES = {
    "sizes.Size": ["parts=()", "coefficients degree", "__add__ __sub__ __mul__ __neg__ __eq__ __call__(n)"],
    "programs.Program": ["tree", "arrays body accesses", "tree() size_of(array) counters() __len__ __contains__ __eq__ "
                         "replaced(block) fixed(n) read(text)"],
    "caches.Cache": ["line,levels", "line levels sets_together period", "__len__ __eq__ show() read(text)"],
    "machine.Memory": ["cache,bases", "cache played tally state",
                       "play(array,line,is_write,number) flush() put(state) take(tally)"],
    "formulas.Formula": [None, "program cache period", "__call__(n) case(rest) paper()"],
    "costs.Costs": [None, "period", "__call__(n) __add__ __sub__ __mul__ __neg__ case(rest) signs()"],
    "sessions.Session": ["program,cache,n", "program cache n",
                         "tallied() journal() perform(event) trial(events,call) replayed(program,cache,n,events)"],
    "questions.Condition": [None, "", "__call__(row) __and__ __or__ __invert__ parts() __eq__"],
    "console.Console": ["", "", "execute(command)"],
}


def parameters(function, is_method):
    """The parameters of a function as they are written, without blanks."""
    arguments = ast.unparse(function.args).replace(" ", "")
    if is_method:
        _, _, arguments = arguments.partition(",")
    return arguments


class InterfaceTest(unittest.TestCase):

    def defined(self, module):
        tree = ast.parse((FOLDER / f"{module}.py").read_text(encoding="ascii"))
        return {node.name: node for node in tree.body if isinstance(node, (ast.FunctionDef, ast.ClassDef))}

    def test_functions(self):
        for module, listed in FUNCTIONS.items():
            defined = self.defined(module)
            for text in listed.split():
                name, _, arguments = text[:-1].partition("(")
                self.assertEqual(parameters(defined[name], False), arguments, (module, name))

    def test_classes(self):
        for name, (made_of, properties, methods) in CLASSES.items():
            module, _, word = name.partition(".")
            body = {node.name: node for node in self.defined(module)[word].body if isinstance(node, ast.FunctionDef)}
            if made_of is not None:
                self.assertEqual(parameters(body["__init__"], True), made_of, name)
            for one in properties.split():
                self.assertEqual([mark.id for mark in body[one].decorator_list], ["property"], (name, one))
            for text in methods.split():
                one, _, arguments = text.rstrip(")").partition("(")
                self.assertIn(one, body, name)
                marks = [mark.id for mark in body[one].decorator_list]
                self.assertEqual(marks, ["classmethod"] if one in ("read", "replayed") else [], (name, one))
                if "(" in text:
                    self.assertEqual(parameters(body[one], True), arguments, (name, one))

    def test_by_name(self):
        module = {name: importlib.import_module(f"farmisses.{name}") for name in
                  [*FUNCTIONS, "sizes", "programs", "caches", "sessions", "console"]}
        text = "array a n*n for i n { for j n { write a[n*i + j] } }"
        program = module["programs"].Program.read(text=text)
        block = program.body
        cache = module["caches"].Cache.read(text="line 2 level 2 1 used back")
        both = {"program": program, "cache": cache}
        three = {**both, "n": 6}
        self.assertEqual(module["sizes"].Size(parts=(1, 2))(n=3), 7)
        self.assertEqual(module["programs"].Program(tree=program.tree()).size_of(array="a"), (0, 0, 1))
        self.assertEqual(program.replaced(block=block).fixed(n=2).counters(), ["i", "j"])
        self.assertEqual(module["caches"].Cache(line=2, levels=cache.levels), cache)
        memory = module["machine"].Memory(cache=cache, bases=[0])
        memory.play(array=0, line=1, is_write=True, number=0)
        memory.put(state=memory.state)
        memory.take(tally={})
        self.assertEqual(memory.tally, {})
        shown = module["papers"].paper(**three)
        formula = module["formulas"].formula(**both)
        costs = module["costs"].costs(formula=formula, weights=None)
        self.assertEqual((costs(n=6), costs.case(rest=0)), (costs(6), costs.case(0)))
        self.assertEqual((formula(n=6), formula.case(rest=0)), (formula(6), formula.case(0)))
        session = module["sessions"].Session(**three)
        other = module["sessions"].Session.replayed(**three, events=[])
        self.assertEqual(other.perform(event=("size", 6)), "same")
        self.assertEqual(session.trial(events=[], call=session.journal), [])
        given = {"value": shown, "text": "back", "tree": program.tree(), "parts": (1,), "time": 3, "items": (1, 2),
                 "order": ("j", "i"), "counter": "i", "size": 2, "outer": "k", "cutting": (), "cuttings": ((),), "weights": None,
                 "choice": (0, ("j", "i")), "event": ("back",), "events": [], "session": session, "tally": formula(6),
                 "formula": formula, "condition": module["questions"].where(kind="hit"), **three}
        texts = {"parse": text, "parse_size": "n", "parse_block": "flush", "read_condition": "any", "ask": "some any"}
        for name, listed in FUNCTIONS.items():
            for one in listed.split():
                word, _, arguments = one[:-1].partition("(")
                if word == "where":
                    continue
                names = [part.partition("=")[0] for part in arguments.replace("((),)", "0").split(",") if part != "*"]
                call = {part: given[part] for part in names}
                if word in texts:
                    call["text"] = texts[word]
                if word == "blocked":
                    call["program"] = module["programs"].Program.read("for i 2*n { }")
                found = getattr(module[name], word)(**call)
                if word in ("accesses", "permutations", "legal_orders", "choices", "selected"):
                    list(found)
        condition = module["questions"].where(kind="hit")
        self.assertIs(condition(row=("hit", 0, 0, None, "a", "read", 1)), True)
        self.assertEqual(module["console"].Console().execute(command="cost"), "0")

    def test_keyword_only(self):
        module = importlib.import_module("farmisses.best")
        program = importlib.import_module("farmisses.programs").Program(((), ()))
        cache = importlib.import_module("farmisses.caches").Cache(1, ((1, 1, "used", "back"),))
        for call in [lambda: module.best(program, cache, 0, ((),), None), lambda: module.best_paper(program, cache, 0, ((),), None),
                     lambda: module.told_best(program, cache, 0, None, ((),), None)]:
            with self.assertRaises(TypeError):
                call()
        self.assertEqual(module.best(program, cache, 0, weights=None), (0, (0, ())))

    def test_errors_take_any_values(self):
        thing = object()
        for kind in errors.FarError.__subclasses__():
            self.assertIs(list(vars(kind(thing)).values())[0], thing)


if __name__ == "__main__":
    unittest.main()
