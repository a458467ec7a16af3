"""The interface: every name stands in its file, with the arguments that the document lists."""

import importlib
import inspect
import unittest

FUNCTIONS = """
seals: is_parts(value) is_word(value)
trees: root_of(notary,leaves) path_of(notary,leaves,index) root_by(notary,index,leaf,path)
machine: is_instruction(value) is_program(value) is_input(value) is_state(value) first_state()
machine: step(program,words,state) run(program,words,state,steps) trace(program,words,state,steps)
assembly: read_program(text) print_program(program)
states: memory_root(notary,memory) written_chain(notary,words) state_seal(notary,state) program_root(notary,program)
states: input_root(notary,words) fields_of(notary,state) question(notary,program,words,state,level)
papers: make_paper(notary,program,words,state) check_paper(notary,question,before,paper)
histories: history_of(notary,row) opening(notary,history) last_of(notary,history) is_shaped(notary,history,level)
histories: part_at(notary,history,level,lower,place) row_of(notary,history,level)
histories: first_difference(notary,one,other,level)
spans: is_span(value) root_span(question,history) halves_of(notary,span) are_rivals(one,other)
bridge: input_of(entries) payments(members,rest,entries,status,words)
watcher: needs(truth,arena,height) plan(truth,arena,height,name)
lies: lied_states(program,words,states,at,spot,word) forged_row(row,at,seal) seal_row(notary,question,row)
lies: cut_of(notary,arena,span)
scripts: read_script(text) print_script(acts)
reasons: full_reason(arena,span,height) worth(arena,span,height,reason)
bounds: least_needed(level,patience) latest_closing(opened,level,patience,needed)
bounds: rival_counts(arena,truth,height) outlay_bound(arena,name)
"""

CLASSES = """
seals.Notary(): seal(parts) find(parts) parts_of(seal) size() finds()
trees.WordTree(notary,height): word_at(index) set_word(index,word) path(index) root() copy()
states.Run(notary,program,words,state,level): question() seals() start() program() words() state_at(n)
accounts.Accounts(amounts): amount(name) move(source,target,amount) total() names() copy()
ledger.Ledger(contract,accounts,patience): send(sender,deed) add_block(chosen) turn_back(count) head() patience()
ledger.Ledger(contract,accounts,patience): blocks() answers(height) pool() contract() accounts()
arena.Arena(notary,question,opened,needed,root_stake,half_stake,window): apply(sender,deed,height,accounts,purse)
arena.Arena(notary,question,opened,needed,root_stake,half_stake,window): copy() question() opened() needed()
arena.Arena(notary,question,opened,needed,root_stake,half_stake,window): root_stake() half_stake() window() spans()
arena.Arena(notary,question,opened,needed,root_stake,half_stake,window): is_posted(span) is_rivalled(span)
arena.Arena(notary,question,opened,needed,root_stake,half_stake,window): is_halved(span) is_settled(span) is_shown(span)
arena.Arena(notary,question,opened,needed,root_stake,half_stake,window): made(span) own(span,height) count(span,height)
arena.Arena(notary,question,opened,needed,root_stake,half_stake,window): stored(span) halves(span) payer(span)
arena.Arena(notary,question,opened,needed,root_stake,half_stake,window): halver(span) confirmed() closed_at()
arena.Arena(notary,question,opened,needed,root_stake,half_stake,window): is_shared() stakes()
bridge.Bridge(notary,program,members,level,needed,root_stake,half_stake,window): apply(sender,deed,height,accounts)
bridge.Bridge(notary,program,members,level,needed,root_stake,half_stake,window): copy() inbox() rest() number()
bridge.Bridge(notary,program,members,level,needed,root_stake,half_stake,window): entries(number) arena(number)
bridge.Bridge(notary,program,members,level,needed,root_stake,half_stake,window): is_paid(number) program() members()
bridge.Bridge(notary,program,members,level,needed,root_stake,half_stake,window): level() window()
truth.Truth(notary,run): question() root() true_span(level,first) is_true(span) halving(span) paper(span) showing(span)
watcher.Watcher(notary,name): deeds(bridge,height) truth(bridge,k)
world.World(program,members,amounts,level,needed,root_stake,half_stake,window,patience,watcher): act(act) play(acts)
world.World(program,members,amounts,level,needed,root_stake,half_stake,window,patience,watcher): settle(limit)
world.World(program,members,amounts,level,needed,root_stake,half_stake,window,patience,watcher): outcome() ledger()
world.World(program,members,amounts,level,needed,root_stake,half_stake,window,patience,watcher): notary() run_of(number)
"""

ERRORS = ("BadParts", "OutOfTree", "BadText", "BadState", "BadRow", "BadArena")


def module(name):
    return importlib.import_module("onewatcher." + name)


def told(call):
    """The name and the list of the arguments of a call as it is written above."""
    name, _, rest = call.partition("(")
    rest = rest.rstrip(")")
    return name, rest.split(",") if rest else []


class InterfaceTest(unittest.TestCase):
    def check(self, function, arguments):
        parameters = list(inspect.signature(function).parameters.values())
        self.assertEqual([parameter.name for parameter in parameters], arguments, function)
        self.assertTrue(all(parameter.kind == parameter.POSITIONAL_OR_KEYWORD for parameter in parameters))

    def test_functions(self):
        for line in FUNCTIONS.strip().splitlines():
            place, _, calls = line.partition(": ")
            for call in calls.split():
                name, arguments = told(call)
                function = getattr(module(place), name)
                self.assertEqual(function.__module__, "onewatcher." + place)
                self.check(function, arguments)

    def test_classes(self):
        for line in CLASSES.strip().splitlines():
            head, _, calls = line.partition(": ")
            path, arguments = told(head)
            place, name = path.split(".")
            kind = getattr(module(place), name)
            self.assertEqual(kind.__module__, "onewatcher." + place)
            self.check(kind, arguments)
            for call in calls.split():
                method, arguments = told(call)
                self.assertIn(method, vars(kind), (name, method))
                self.check(vars(kind)[method], ["self"] + arguments)

    def test_errors(self):
        errors = module("errors")
        self.assertEqual(errors.WatchError.__bases__, (ValueError,))
        for name in ERRORS:
            self.assertTrue(issubclass(getattr(errors, name), errors.WatchError))
        self.assertEqual(errors.BadText(7).line, 7)

    def test_constants(self):
        seals, machine, histories = module("seals"), module("machine"), module("histories")
        self.assertEqual((seals.WORD, seals.MAX_PART), (2 ** 32, 2 ** 48))
        self.assertEqual((machine.MEMORY, machine.MAX_PROGRAM, machine.MAX_INPUT), (64, 64, 64))
        self.assertEqual((len(machine.NAMES), machine.NAMES[0], machine.NAMES[-1]), (17, "set", "stop"))
        self.assertEqual(histories.MAX_LEVEL, 10)


if __name__ == "__main__":
    unittest.main()
