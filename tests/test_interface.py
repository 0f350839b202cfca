"""The names, arguments and homes of what the interface lists."""

import importlib
import inspect
import unittest

FUNCTIONS = {
    "books": "is_whole(thing) is_sequence(thing) letter_places(book) unknown_places(book) size_bound(book) "
             "neighbours(book)",
    "tidying": "tidy(book) canon(book)",
    "expressions": "alphabet_of(letters) check_expression(thing,letters) matches(expression,text) "
                   "expression_text(expression) read_expression(text,letters)",
    "watchers": "watcher_of(expressions,letters) text_apart(expression,other,letters)",
    "deeds": "deeds_of(watcher) deed_after(first,then) power_of(deed) deed_times(deed,many)",
    "sayings": "check_letters(letters) check_side(thing,letters) check_saying(thing,letters) is_item(thing,letters) "
               "names_of(saying) exchanged(saying,table) side_text(side,texts) saying_holds(saying,texts)",
    "sayingtext": "saying_text(saying) sayings_text(sayings) read_saying(text,letters) read_sayings(text,letters)",
    "booktext": "read_whole(word) book_text(book) read_book(text)",
    "settling": "settle(book,gone,lot) start_of(book,lot)",
    "guesses": "opened_side(side,parts)",
    "first": "left_ends(ends,front,back,deeds) first_guesses(book,at,lot)",
    "pairs": "pair_guesses(book,firsts,seconds,lot)",
    "parting": "parting(book) best_neighbours(book)",
    "steps": "told_step(book) let_step(book,step)",
    "forms": "form_value(form,numbers) form_sum(forms,many) form_gap(one,other) length_choices(deed) class_rows(forms)",
    "blocks": "shapes_of(book,unknown,letters,lot) block_guesses(book,letters,lot)",
    "carries": "check_system(system) turns_from(system,carry_row) carry_bounds(system) whole(system) "
               "judge_carries(system,carries) answer_fault(system,numbers)",
    "stepping": "guesses_of(book,step,lot) outcome_of(guess)",
    "nets": "check_order(order) check_room(room) look_over(book,lot)",
    "trails": "trail_of(net) net_fault(net)",
    "nettext": "net_text(net) read_net(text,lot,known=())",
    "hands": "hands_text(hands) read_hands(text,lot,known=())",
    "grammars": "word_symbol(grammar,word) joined_grammars(one,other) cut_word(grammar,word,begin,end) "
                "trimmed_grammar(grammar,words)",
    "pressing": "press_words(grammar,words) same_text(grammar,one,other) first_unlike(grammar,one,other)",
    "fillings": "filling_of(texts) same_filling(one,other) chosen_filling(filling,names) filled_word(filling,side) "
                "saying_true(filling,saying) judge_filling(sayings,letters,filling)",
    "unfolding": "unfold_stages(trail,letters,lot) unfold(trail,letters,unknowns,spares,empties,lot)",
    "papers": "join_papers(one,other) trim_paper(books,paper,lot) closed_list(net,known=None)",
    "judging": "judge_list(books,paper,lot)",
    "papertext": "paper_text(paper) read_paper(text)",
    "cases": "check_sayings(sayings,letters) expressions_in(sayings) cases_of(sayings,letters) lot_for(sayings,letters)",
    "roots": "roots_of(case,expressions,watcher,lot)",
    "solving": "solve(sayings,letters=2,order='first',*,room=300,known=None) judge_shut(sayings,letters,shut) "
               "follows(sayings,saying,letters=2,order='first',*,room=300)",
    "scripts": "run_script(script,inputs) script_text(script) read_script(text) turned_at(script,road)",
    "ways": "ways_of(script) stop_goals(script,stop) apart_goals(one,other) meet_goals(goals,letters,*,room=300) "
            "told_apart(one,other,*,room=300) never_fault(goals,letters,never) input_for(script,turns,*,room=300) "
            "inputs_of(filling,reads,room=1000)",
    "deskdeeds": "check_deed(thing)",
    "stories": "print_deeds(deeds) read_deeds(text,letters) put_away(desk) taken_up(text)",
}
PROPERTIES = {
    "books.Book": "key",
    "nets.Net": "books open_books borrowed looked filled verdict ended bound largest",
    "hands.Hands": "reports",
    "fillings.Filling": "names",
    "papers.Paper": "books",
    "cases.Case": "names",
    "solving.Solving": "ended",
}
SPECIAL = {
    "nets.Net": "__len__ __iter__ __contains__",
    "papers.Paper": "__len__ __iter__ __contains__",
    "scripts.Script": "__len__ __iter__",
    "desk.Desk": "__len__ __iter__",
}
# Those of which == is not promised.
CHANGING = ("Net", "Hands", "Solving")
CLASSES = {
    "books": {"Book": ("(rows,deeds,ends,states=1)", ""), "Clash": ("(why,at)", "")},
    "tidying": {"Canon": ("(book,letters,unknowns)", "")},
    "watchers": {"Watcher": ("(letters,moves,ends)", "state_after(text,state=0) takes(number,text) "
                             "goals_where(wanted) reach_text(state) apart_text(state,other)")},
    "deeds": {"Deeds": ("(watcher,table)", "letter_deed(letter) text_deed(text) text_of(deed) reached_from(start) "
                        "path_text(start,goals) apart_in(deed,other)")},
    "settling": {"Settled": ("(told,letters,unknowns,spares)", "")},
    "blocks": {"Shape": ("(front,stays,back,ends)", "")},
    "carries": {"Answer": ("(numbers)", ""), "Carries": ("(rows)", "")},
    "grammars": {"Grammar": ("(rules)", "word_length(word) letters_in(word) letter_at(word,at) "
                             "plain_text(word,room)")},
    "pressing": {"Pressed": ("(table,ends)", "")},
    "trails": {"Trail": ("(root,turns)", "")},
    "nets": {"Look": ("(step,outcomes)", ""),
             "Net": ("(roots,lot,order='first',*,room=300,backward=False,known=())",
                     "advance() look_at(number) run(steps) forget(number) outcomes_at(number) way_to(number)")},
    "hands": {"Hands": ("(net,many)", "take(hand) drop(hand) write(hand) holds(hand) deliver(report) lose(report) "
                        "forget(number) finish()")},
    "fillings": {"Filling": ("(grammar,words)", "word_of(name) texts(room)")},
    "unfolding": {"Stages": ("(grammar,stages)", "")},
    "papers": {"Entry": ("(book,step,lots)", ""), "Shut": ("(paper)", ""), "Paper": ("(deeds,entries)", "")},
    "cases": {"Case": ("(rows,sets,full)", "")},
    "roots": {"Root": ("(told,letters,unknowns,spares,empties)", "")},
    "solving": {"Solving": ("(sayings,letters=2,order='first',*,room=300,known=None)", "advance() refresh()")},
    "scripts": {"Script": ("(statements,letters=2)", ""), "Run": ("(turns,used,ends,stop)", "")},
    "ways": {"Way": ("(turns,reads,sayings,ends,stop)", ""), "Found": ("(turns,filling)", ""), "Never": ("(papers)", "")},
    "desk": {"Desk": ("(letters=2,room=300,order='first')", "do_deed(deed) trial_deeds(deeds)"), "Trial": ("(tolds,refused)", "")},
    "guesses": {"Guess": ("(parts,news,told,letters,unknowns,spares,equations)", "")},
}


def arguments(function):
    return str(inspect.signature(function)).replace(" ", "")


class InterfaceTest(unittest.TestCase):
    def test_functions_are_defined_in_their_files(self):
        for name, listed in FUNCTIONS.items():
            module = importlib.import_module("pressedwords." + name)
            for told in listed.split():
                function = getattr(module, told.split("(")[0])
                self.assertEqual(function.__module__, module.__name__, told)
                self.assertEqual(function.__name__ + arguments(function), told)

    def test_classes_define_their_methods_themselves(self):
        for name, listed in CLASSES.items():
            module = importlib.import_module("pressedwords." + name)
            for word, (told, methods) in listed.items():
                kind = getattr(module, word)
                self.assertEqual((kind.__module__, kind.__bases__), (module.__name__, (object,)))
                self.assertEqual(arguments(kind), told)
                self.assertEqual("__eq__" in vars(kind), word not in CHANGING)
                for method in methods.split():
                    function = vars(kind)[method.split("(")[0]]
                    told = arguments(function).replace("(self,", "(").replace("(self)", "()")
                    self.assertEqual(function.__name__ + told, method)

    def test_properties_and_special_methods(self):
        for names, kind in ((PROPERTIES, property), (SPECIAL, object)):
            for place, words in names.items():
                name, word = place.split(".")
                module = importlib.import_module("pressedwords." + name)
                for told in words.split():
                    self.assertIsInstance(vars(getattr(module, word))[told], kind)


if __name__ == "__main__":
    unittest.main()
