"""The interface: each name stands in its file, with its parameters and defaults."""

import ast
import unittest

from tests.language import PACKAGE

INTERFACE = {
    "errors": """StoreError() InvalidStore(at) InvalidText(at) InvalidRun(at) InvalidState() InvalidView(at)
        InvalidTable(at) InvalidNumber(word) Refused(word)""",
    "clashes": """all_clashes(store) clashing_pairs(store) clash_states(store) clash_of(store,one,other,state)
        is_clash(store,value) clash_run(store,clash) ends_hold(store)""",
    "groups": """check_table(value) times(table,one,two) inverse(table,one) power(table,one,many) order_of(table,one)
        generated(table,shares) centre(table) is_commutative(table) opposite(table) is_matching(table,goal,value)
        matching(table,goal)""",
    "matches": "matches(one,other,*,most=200)",
    "runs": """check_state(store,value) check_run(store,run,*,office=None) own_run(store,run,office) own_runs(store,run)
        after(store,state,run) passed(store,state,run) answers_of(store,state,run) run_ends(store,run)
        reachable(store,state,offices=None) distances(store,state,offices=None)
        shortest_run(store,state,goal,offices=None) count_runs(store,state,goal,length,offices=None)""",
    "stores": "Store(size,offices) renamed(store,names) renumbered(store,order)",
    "backs": "amend_run(store,office,state,done,wished) back_times(store,name) common_back(store,name,states)",
    "barring": """Barred(prices,bars,cost,paper) without(store,bars) least_bars(store,*,prices=None)
        check_barred(store,value) all_least_bars(store,*,prices=None,most=20) bar_words(store,*,prices=None)
        sparing_bars(store,office,*,prices=None)""",
    "beside": "side_by_side(one,other) part_of(store,lot)",
    "cards": "group_store(table,lefts,rights) pack(many)",
    "edits": "extends(one,other)",
    "homes": """joint_homes(store,offices) homes(store,office) home_order(store,offices)
        lasting_states(store,offices=None) is_reversible(store) closed_lot(store) meeting(store,one,other,offices)
        crossing(store,state,goal,offices) need_unseen_reversible(store)""",
    "notices": """cut_answers(store,states,run) copies(store,states,run) noticed(store,state,run)
        nearest_clash(store,state) soonest(store,state) soonest_run(store,state)""",
    "steady": """steady_view(store,office) is_steady(store,office,value) misled(store,office)
        answers_hold(store,*,office=None)""",
    "texts": "read_store(text) show_store(store)",
    "weavings": """check_runs(runs) count_weavings(runs) weaving_at(runs,number) place_of_weaving(runs,run)
        count_exchanges(runs,one,other) exchanges(runs,one,other) sorted_run(store,run,order=None)
        ends_of_weavings(store,state,runs) weaving_to(store,state,runs,goal)
        answers_of_weavings(store,state,runs,office,place)""",
    "bills": """check_rates(store,rates) bill(store,rates,state,run) bill_again(store,rates,state,run,times)
        bill_span(store,rates,state,runs) cheapest_weaving(store,rates,state,runs)""",
    "court": "Unseen(store) Seen(store,clash) court(store) check_verdict(store,value) sort_of(store)",
    "falls": """falls(store,name) fall_places(store,state,run) deepest(store,state,offices=None) stopped(store,lot)
        split_of(store,state,run,*,office=0)""",
    "islands": """island_answers(store,state,islands,runs) explains(store,state,islands,runs,value)
        explanation(store,state,islands,runs) count_explanations(store,state,islands,runs)""",
    "letin": """may_be_given(store,office,value) given_goals(store,office) count_given(store,office)
        given_ends(store,office,number) number_of_given(store,office,value)""",
    "live": "Live(store,state)",
    "looks": """check_look(store,value) waits_for(store,look) with_look(store,office,name,look)
        finest_look(store,offices) told_at_once(store,offices,look) count_looks(store,offices,most)
        count_waiting(store,offices,most)""",
    "marks": "Marks(view,runs) least_marks(store,name) check_marks(store,name,value)",
    "names": """Names(owns,others,shares,table,left,right,answers) names_of(store) check_names(store,value)
        name_of(names,state) state_of(names,name) left_of(names,run,own) right_of(names,run,other)
        store_of(names) mirrored(names)""",
    "reversal": "Reversible(outward,homeward) OneWay(lot) reversal(store) check_reversal(store,value)",
    "shared": """Shared(table,shares) cells(store,*,office=0) measure(store,*,office=0)
        shared_group(store,*,office=0,base=0)""",
    "undoing": """undo_run(store,state,name) is_undo(store,state,name,value) undo_lengths(store,name)
        undoers(store,state,name) round_times(store,state,run) powers_undo(store,state,name)
        undo_parts(store,state,run)""",
    "views": """check_view(store,value) view_of(store,things) is_finer(one,other) refinement(one,other)
        merged_view(one,other) is_blind(store,view,office) blind_offices(store,view) blind_view(store,offices)
        count_blind_views(store,offices) blind_view_at(store,offices,number)
        place_of_blind_view(store,offices,view)""",
    "waits": """Waits(states,prices,bars,cost,paper) noisy_run(store,states) least_waits(store,states,*,prices=None)
        check_waits(store,value)""",
    "bases": """turned(names,images,lefts,rights) count_names(store) idle_factors(names) tree_names(store,state)
        idle_names(store,*,most=10000)""",
    "fuller": """free_group(store,*,office=0,base=0) is_full(store,office) filled(store,office)
        settled(store,order)""",
    "joins": """bundles(store) regrouped(store,groups) must_join(store) folded(store,offices) part_counts(store)
        shared_count(store,one,other)""",
    "learnt": """possible(store,offices,state,look) sure_for(store,offices,state,look)
        learnt(store,offices,state,run,end,others) hidden(store,offices,others)""",
    "loops": """share_of(store,run,*,office=0,base=0) loops(store,*,office=0,base=0)
        unlike_runs(store,*,office=0,base=0) check_unlike(store,value,*,office=0,base=0)""",
    "many": """cores(store) commons(store) core_measure(store) core_group(store,*,base=0)
        core_end(store,one,goal,state)""",
    "merges": """island_ends(store,state,run,*,islands=None) merged(store,state,ends,*,islands=None)
        join_ends(store,state,ends,one,other,*,islands=None) starts(store,ends,*,islands=None)
        starts_to(store,ends,goal,*,islands=None) outcomes(store,ends,*,islands=None)""",
    "orders": """hanging(store,islands,state) first_order(store,islands,state) count_orders(store,islands,state)
        hanging_ring(store,islands,state) check_ring(store,islands,state,value) unexplained(store,islands,state)""",
    "own": """own_view(store,office) is_carried(store,view,offices=None) least_view(store,offices=None)
        telling_run(store,one,other,offices=None) seen_store(store,view,offices=None) own_store(store,office)
        least_store(store,offices=None)""",
    "powers": """left_power(names,run,own,many) right_power(names,run,other,many)
        power_ends(names,state,run,many,other,more) tail_and_round(store,state,run)
        after_times(store,state,run,many) answer_sums(store,state,run,many) again_ends(store,state,run,other)""",
    "rests": "last_homes(store,state,offices=None) rest_runs(store,state) fate(store,state,choice)",
    "sheets": """Sheet(scale,lists,worth) Uneven(one,other,state) sheet_of(store,rates) check_sheet(store,rates,value)
        rates_of(store,sheet) own_bills(store,sheet,state,run)""",
    "cuts": """Replay(counts,ends,answers) cut_ends(names,state,run,other) replay(store,state,events)
        stand_ins(store,state,run,many=1)""",
    "forms": """Turning(owns,others,images,lefts,rights) made_names(table,left,right,answers)
        check_turning(one,other,value) order_by(one,other,turning) some_turning(one,other,order) form_of(store)
        still_matches(store)""",
    "lengths": """ends_by(store,state,lengths) runs_by(store,state,lengths,goal) phases(store) phase_steps(store)
        settling(store,office)""",
    "notes": """island_measure(store,*,islands=None) merge_table(store,*,islands=None,base=0)
        ends_suffice(store,*,islands=None) torn(store,*,islands=None) check_torn(store,value,*,islands=None)
        are_notes(store,value,*,islands=None) least_notes(store,*,islands=None)
        merged_by_note(store,notes,note,ends,*,islands=None) count_notes(store,*,islands=None)
        count_ends(store,*,islands=None)""",
    "turns": "turn_of(store,run,*,base=0) turns(store,*,base=0) turning_store(table,shares,matchings,*,many=3)",
    "sums": """Sum(parts,shares,table,adds) Bent(run,state,other) sum_of(store) check_sum(store,value)
        lone_offices(store) multipliers(store,*,base=0)""",
    "checker": "claim_words() check(claim) carried_over(claim,store) gather(store) concluded(store,claims)",
}

METHODS = {
    "Store": ["__eq__(other)", "names()", "office_of(name)", "operation(name)"],
    "Live": """do(name) hand(giver,taker) mend() present() start() history() told() copy_states() known(office) single()
        is_whole() noticing() put_operation(office,operation,*,at=None) put_office(operations,*,at=None)
        take_operation(name) take_office(office) undo() changes()""".split(),
}


def parameters(node, skip=0):
    """The parameters of a function as they are written."""
    spec = node.args
    plain = [arg.arg for arg in spec.args[skip:]]
    for k, value in enumerate(reversed(spec.defaults), 1):
        plain[-k] += "=" + ast.unparse(value)
    if spec.kwonlyargs:
        plain.append("*")
    plain += [arg.arg + "=" + ast.unparse(value) for arg, value in zip(spec.kwonlyargs, spec.kw_defaults)]
    return ",".join(plain)


class InterfaceTest(unittest.TestCase):

    def test_names(self):
        for module, words in INTERFACE.items():
            told = {}
            for node in ast.parse((PACKAGE / (module + ".py")).read_text()).body:
                if isinstance(node, ast.FunctionDef):
                    told[node.name] = parameters(node)
                if isinstance(node, ast.ClassDef):
                    methods = {inner.name: parameters(inner, 1) for inner in node.body if isinstance(inner, ast.FunctionDef)}
                    told[node.name] = methods.get("__init__", "")
                    for method in METHODS.get(node.name, []):
                        name, _, rest = method.rstrip(")").partition("(")
                        self.assertIn(name, methods)
                        self.assertEqual(rest, methods[name])
            for word in words.split():
                name, _, rest = word[:-1].partition("(")
                self.assertIn(name, told, module)
                self.assertEqual(told[name], rest, name)

    def test_all_modules(self):
        """The document lists these modules; others help them."""
        self.assertEqual(len(INTERFACE), 49)
        for module in INTERFACE:
            self.assertTrue((PACKAGE / (module + ".py")).exists(), module)

    def test_package(self):
        self.assertTrue((PACKAGE / "__init__.py").exists())


if __name__ == "__main__":
    unittest.main()
