"""The document's interface: each name in its file, with its arguments."""

import importlib
import inspect
import unittest

INTERFACE = {
    "kinds": {
        "is_number": "(thing)", "is_word": "(thing)", "is_kind": "(thing)", "is_copying": "(thing)",
        "is_agreeing": "(thing)", "is_bounds": "(thing, *, least=2)", "is_spring": "(thing)", "is_foe": "(thing)",
        "is_works": "(thing)",
    },
    "acts": {"is_good": "(thing)", "is_deed": "(thing, *, agreed=None)", "is_strike": "(thing)"},
    "goods": {"kind_called": "(works, name)", "goods_of": "(works)"},
    "worksfit": {"is_whole": "(thing)", "lets_works": "(thing)"},
    "hangs": {"hangs_straight": "(works, good)", "hangs_on": "(works, good)", "rings_of": "(works)"},
    "births": {"ever_come": "(works, stock)", "birth_row": "(works, stock)", "starts_of": "(works)"},
    "birthchecker": {"lets_birth": "(works, stock, thing)"},
    "barrens": {"barren_goods": "(works, stock)"},
    "barrenchecker": {"lets_barren_goods": "(works, stock, thing)"},
    "workstexts": {"works_text": "(works)"},
    "worksreading": {"works_read": "(text)"},
    "stands": {
        "void_stand": "(works, *, phase=None, rest=0)", "full_stand": "(works, *, phase=None, rest=0)",
    },
    "standchecker": {"lets_stand": "(works, thing)", "is_right_stand": "(works, thing)"},
    "order": {
        "is_no_less": "(stand, other)", "pairing": "(stand, other)", "lets_pairing": "(stand, other, thing)",
    },
    "deeds": {
        "barred_by": "(works, stand, deed)", "done": "(works, stand, deed)", "deeds_at": "(works, stand)",
    },
    "beats": {"beat_passed": "(works, stand)"},
    "strikes": {"strikes_at": "(works, stand)", "struck": "(works, stand, strike)"},
    "standrows": {"run": "(works, stand, row)"},
    "ledger": {"ledger_of": "(works, stand, row)"},
    "standtexts": {"stand_text": "(stand)", "stand_read": "(text)"},
    "glow": {"is_bunch": "(thing)", "glow_of": "(lights)", "bunch_covers": "(one, other)"},
    "bunchdeeds": {
        "bunch_deeds": "(lights, *, many, bright)", "bunch_done": "(lights, deed, *, many, bright)",
        "bunch_run": "(lights, row, *, many, bright)", "copied_out": "(lights)",
    },
    "fates": {"most_of": "(lights, word, *, many, bright)"},
    "fatepapers": {"fate_paper": "(lights, word, *, many, bright, most=2000)"},
    "fatechecker": {"lets_fate": "(lights, word, thing, *, many, bright)"},
    "turns": {"turns_of": "(works, stand)", "turn_led": "(works, stand, turn)"},
    "webs": {
        "next_of": "(works, stand)", "quiet_web": "(works, stand, *, most=2000)",
        "whole_web": "(works, stand, *, most=2000)",
    },
    "comes": {
        "beats_to": "(works, stand, good, *, most=2000)", "quiet_row": "(works, stand, good, *, most=2000)",
    },
    "alive": {"goods_to_come": "(works, stand, *, most=2000)", "is_alive": "(works, stand, *, most=2000)"},
    "comepapers": {"come_paper": "(works, stand, good, *, most=2000)"},
    "comechecker": {"lets_come": "(works, stand, good, thing)"},
    "kept": {
        "kept_within": "(works, stand, *, most=2000)", "fallen_within": "(works, stand, *, most=2000)",
        "is_kept": "(works, stand, *, most=2000)", "is_safe": "(works, stand, *, most=2000)",
    },
    "keptpapers": {"kept_paper": "(works, stand, *, most=2000)"},
    "keptchecker": {"lets_kept": "(works, stand, thing)"},
    "leaststands": {"lowered": "(works, stand)", "least_stands": "(works, *, phase, rest, most=2000)"},
    "drychecker": {"lets_dry": "(works, thing)"},
    "dry": {"dry_paper": "(works, *, highest=3)"},
    "cuttings": {
        "is_lot": "(works, thing)", "left_of": "(works, stand, lot)", "daughter_of": "(works, stand, lot)",
        "may_cut": "(works, stand, lot, *, most=2000)", "least_cuttings": "(works, stand, *, most=2000)",
    },
    "keeper": {"Keeper": "(works, stand)"},
    "replaying": {"replayed": "(log)"},
    "desk": {"Desk": "()"},
    "errors": {
        "NoPaper": "(word, at)", "NoWorks": "(word, at)", "NoDeed": "(deed, why)", "NoRow": "(k, why)",
        "NoMore": "(many)", "NoKeep": "(deed)", "NoHouse": "(name)", "NoBack": "(times)",
        "NoText": "(line, word)", "NoLine": "(line)",
    },
}

METHODS = {
    ("keeper", "Keeper"): {
        "do": "(self, name, deed)", "beat": "(self)", "strike": "(self, name, strike)",
        "cut": "(self, name, fresh, lot)",
        "give": "(self, name, other, lot)", "works_now": "(self)", "names": "(self)", "__len__": "(self)",
        "has": "(self, thing)",
        "stand_of": "(self, name)", "is_open": "(self, name)", "came": "(self, name)", "rows_of": "(self, name)",
        "ledger": "(self, name)", "may": "(self, name)", "may_beat": "(self)", "log": "(self)", "__str__": "(self)",
        "__eq__": "(self, other)", "back": "(self, *, times=1)", "do_all": "(self, rows, *, keep=False)",
        "counts": "(self)",
    },
    ("desk", "Desk"): {"say": "(self, row)", "counts": "(self)"},
}


class Interface(unittest.TestCase):
    def test_each_name_is_defined_in_its_file_with_its_arguments(self):
        for file, names in INTERFACE.items():
            module = importlib.import_module("handsmade." + file)
            for name, arguments in names.items():
                told = getattr(module, name)
                self.assertEqual(told.__module__, "handsmade." + file, name)
                self.assertEqual(str(inspect.signature(told)), arguments, name)

    def test_each_method_is_defined_in_its_class(self):
        for (file, name), methods in METHODS.items():
            told = getattr(importlib.import_module("handsmade." + file), name)
            for method, arguments in methods.items():
                self.assertEqual(str(inspect.signature(vars(told)[method])), arguments, method)


if __name__ == "__main__":
    unittest.main()
