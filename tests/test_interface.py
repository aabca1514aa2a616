"""The interface: names, arguments and defaults as the document lists them."""

import inspect
import unittest

from yarnback import (bolts, book, desk, fitting, lacks, logs, money, papers, rows, shares, sheets, spans, tales, weaving,
                      weighings, weights)

FUNCTIONS = {
    weights.read_weight: "(text)",
    spans.weighed: "(drams, slack=0)",
    spans.yarn_in: "(cloth, oil=None)",
    tales.fault_of: "(sheet, tale)",
    tales.lack_in: "(tale, home)",
    papers.bars: "(sheet, paper, fair=None)",
    fitting.tale_of: "(sheet, fair=None)",
    lacks.lack_of: "(sheet, home)",
    lacks.verdict: "(sheet, home)",
    lacks.tale_with: "(sheet, home, lack)",
    shares.share_of: "(sheet, piece, home)",
    shares.split: "(pence, weights)",
    shares.pay_of: "(sheet, piece, pence)",
    weighings.things_of: "(sheet)",
    weighings.do_show: "(sheet, things)",
    weighings.cheapest: "(sheet, price=None)",
    weighings.lets_by: "(sheet, things, paper, price=None)",
    weighings.worked_out: "(sheet, got, yarn, shown)",
    weaving.maker_at: "(weaving, ell)",
    weaving.blame_of: "(weavings, bolt, ells)",
    money.read_money: "(text)",
    rows.show_record: "(record)",
    rows.read_record: "(text)",
    logs.show_book: "(book)",
    logs.read_book: "(text, price=1)",
}

METHODS = {
    weights.Weight: {
        "__init__": "(self, pounds=0, ounces=0, drams=0)",
        "plus": "(self, other)",
        "less": "(self, other)",
        "times": "(self, many=2)",
        "__eq__": "(self, other)",
        "__str__": "(self)",
        "__repr__": "(self)",
    },
    spans.Span: {
        "__init__": "(self, least, most=None)",
        "holds": "(self, number)",
        "plus": "(self, other)",
        "widened": "(self, by=1)",
        "meet": "(self, other)",
        "__eq__": "(self, other)",
        "__len__": "(self)",
        "__str__": "(self)",
        "__repr__": "(self)",
    },
    sheets.Sheet: {
        "__init__": "(self, gives=None, pieces=None)",
        "homes": "(self)",
        "pieces": "(self)",
        "got": "(self, home)",
        "waste": "(self, home)",
        "yarn": "(self, piece)",
        "makers": "(self, piece)",
        "made_by": "(self, home)",
    },
    bolts.Bolt: {
        "__init__": "(self, runs=None)",
        "runs": "(self)",
        "spot": "(self, ell)",
        "cut": "(self, at)",
        "joined": "(self, other, turned=False)",
        "turned": "(self)",
        "__eq__": "(self, other)",
        "__len__": "(self)",
        "__str__": "(self)",
    },
    money.Money: {
        "__init__": "(self, pence=0, shillings=0, pounds=0)",
        "plus": "(self, other)",
        "less": "(self, other)",
        "times": "(self, many=2)",
        "__eq__": "(self, other)",
        "__str__": "(self)",
        "__repr__": "(self)",
    },
    book.Book: {
        "__init__": "(self, price=1)",
        "__len__": "(self)",
        "give": "(self, lot, home, drams, day, slack=0, waste=0)",
        "take": "(self, lot, piece, drams, weaving, day, slack=0, oil=None)",
        "sew": "(self, bolt, other, day, hour=0, turned=False)",
        "cut": "(self, bolt, at, rest, day, hour=0)",
        "fault": "(self, bolt, ell, pence, day, hour=0)",
        "pay": "(self, piece, pence, day)",
        "advance": "(self, home, pence, day)",
        "drop": "(self, number)",
        "records": "(self)",
        "sheet": "(self, lot, day=None)",
        "bolts": "(self, day=None, hour=None)",
        "blame": "(self, day=None)",
        "account": "(self, home, day=None)",
        "accounts": "(self, day=None)",
    },
    desk.Desk: {
        "__init__": "(self, price=1)",
        "say": "(self, row)",
    },
}

FILES = {
    "yarnback.weights": (weights.Weight, weights.read_weight),
    "yarnback.spans": (spans.Span, spans.weighed, spans.yarn_in),
    "yarnback.sheets": (sheets.Sheet,),
    "yarnback.tales": (tales.fault_of, tales.lack_in),
    "yarnback.papers": (papers.bars,),
    "yarnback.fitting": (fitting.tale_of,),
    "yarnback.lacks": (lacks.lack_of, lacks.verdict, lacks.tale_with),
    "yarnback.shares": (shares.share_of, shares.split, shares.pay_of),
    "yarnback.weighings": (weighings.things_of, weighings.do_show, weighings.cheapest, weighings.lets_by,
                           weighings.worked_out),
    "yarnback.bolts": (bolts.Bolt,),
    "yarnback.weaving": (weaving.maker_at, weaving.blame_of),
    "yarnback.money": (money.Money, money.read_money),
    "yarnback.book": (book.Book,),
    "yarnback.rows": (rows.show_record, rows.read_record),
    "yarnback.logs": (logs.show_book, logs.read_book),
    "yarnback.desk": (desk.Desk,),
}


class InterfaceTest(unittest.TestCase):
    def test_functions(self):
        for function, told in FUNCTIONS.items():
            with self.subTest(function=function.__name__):
                self.assertEqual(str(inspect.signature(function)), told)

    def test_methods_stand_in_the_class_itself(self):
        for owner, methods in METHODS.items():
            for name, told in methods.items():
                with self.subTest(owner=owner.__name__, name=name):
                    self.assertEqual(str(inspect.signature(vars(owner)[name])), told)

    def test_each_is_defined_in_its_file(self):
        for name, things in FILES.items():
            for thing in things:
                with self.subTest(thing=thing.__name__):
                    self.assertEqual(thing.__module__, name)

    def test_values_are_set_when_the_object_is_created(self):
        self.assertEqual(vars(weights.Weight(1)), {"drams": 256})
        self.assertEqual(vars(spans.Span(1)), {"least": 1, "most": 1})
        self.assertEqual(vars(money.Money(1, 1)), {"pence": 13})


if __name__ == "__main__":
    unittest.main()
