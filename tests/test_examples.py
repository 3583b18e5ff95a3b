"""The examples of the document, in its order: each goes on with the names of those ahead of it."""

import unittest

from markedpair import errors

DEEDS = """
>>> from markedpair.deeds import Answer, Clear, Deed, Move, Out, Put, Send, Take
>>> [str(Send(0, 1)), str(Move(1, 0)), Deed.read("move 1 0") == Move(1, 0), Move(2, 0).named_boxes(), Take(0).is_for("receiver"), Clear(0).is_for("receiver")]
['send 0 1', 'move 1 0', True, (0, 2), False, True]
>>> Move(1, 1)
raises BadDeed('to')
>>> Deed.read("send 0")
raises BadText(0, 2)
"""

ROWS = """
>>> from markedpair.rows import Row
>>> fresh = Row(0, Put(0), Out(0), Answer(0), then=1, hear=0)
>>> take = Row(0, Take(0), then=0, empty=(0,))
>>> [str(fresh), str(take), str(Row(1, then=1, hear=0)), Row.read(str(fresh)) == fresh, take < fresh, fresh.sides(), take.takes, fresh.named_numbers()]
['0 hear 0 : put 0 , out 0 , answer 0 > 1', '0 empty 0 : take 0 > 0', '1 hear 0 : - > 1', True, True, ('receiver',), True, (0,)]
>>> Row(0, Put(0), then=1)
raises BadRow('hear')
>>> Row.read("0 hear other empty 1 full 1 : - > 0")
raises BadText(0, 6)
"""

ENDS = """
>>> from markedpair.ends import Receiver, Sender
>>> sender = Sender(take, Row(0, Send(0, 0), then=0), Row(0, Clear(0), then=0, hear=0))
>>> receiver = Receiver.read("0 hear 0 : put 0 , out 0 , answer 0 > 0")
>>> [len(sender), str(sender[1]), take in sender, sender.boxes, sender.numbers, [at for at, row in sender.at_state(0)], str(receiver + Row(0, Answer(0), then=0))]
[3, '0 : send 0 0 > 0', True, 1, (0,), [0, 1, 2], '0 hear 0 : put 0 , out 0 , answer 0 > 0 ; 0 : answer 0 > 0']
>>> [str(receiver.renumbered({0: 5})), str(sender - take), sender.with_row(0, take) == sender]
['0 hear 5 : put 0 , out 0 , answer 5 > 0', '0 : send 0 0 > 0 ; 0 hear 0 : clear 0 > 0', True]
>>> Sender(take, fresh)
raises BadRow(1)
>>> sender - fresh
raises NoRow(fresh)
"""

CHANNELS = """
>>> from markedpair.channels import Channel, Doubles, Loses, Overtakes, channels_of
>>> rough = Channel(2, Overtakes(1), Loses())
>>> [str(rough), rough.loses, rough.doubles, rough.overtakes, Loses() in rough, Overtakes(2) in rough, [str(fault) for fault in rough]]
['2 loses overtakes 1', True, False, 1, True, False, ['loses', 'overtakes 1']]
>>> [str(rough + Doubles()), str(rough - Overtakes(2)), str(rough & Channel(3, Doubles(), Overtakes(2))), str(rough | Channel(3, Doubles()))]
['2 loses doubles overtakes 1', '2 loses', '2 overtakes 1', '3 loses doubles overtakes 1']
>>> [Channel(1, Loses()).within(rough), Channel(3).within(rough), len(list(channels_of(2))), [str(channel) for channel in channels_of(1)][:5]]
[True, False, 12, ['1', '1 overtakes 1', '1 overtakes 2', '1 doubles', '1 doubles overtakes 1']]
>>> Channel.read("2 overtakes 1 loses")
raises BadText(0, 3)
"""

STEPS = """
>>> from markedpair.steps import Act, Hear, Step
>>> [str(Act("sender", 0)), str(Hear("receiver", 0)), str(Step.read("receiver 0 place 1 stays"))]
['sender 0', 'receiver 0 place 0', 'receiver 0 place 1 stays']
"""

RUNS = """
>>> from markedpair.channels import Channel
>>> from markedpair.ends import Receiver, Sender
>>> from markedpair.links import Link
>>> from markedpair.runs import Run
>>> from markedpair.steps import Act, Hear, Step
>>> sender = Sender.read("0 empty 0 : take 0 > 0 ; 0 full 0 : send 0 0 > 0 ; 0 hear 0 full 0 : clear 0 > 0")
>>> receiver = Receiver.read("0 hear 0 : put 0 , out 0 , answer 0 > 0")
>>> plain = Link(sender, receiver, Channel(1), Channel(2))
>>> run = Run(plain, ["p", "q"])
>>> [str(step) for step in run.open_steps()]
['sender 0']
>>> run += Act("sender", 0)
>>> run.do(Act("sender", 1))
>>> [run.seen(), run.seen(0), run.seen(0, 1), run.letters(), run.blocked(Act("sender", 1))]
['0 0 0 . 0. 0 - -', '1 1 0 a 0a 0 - -', '2 1 0 a 0a 0 - -', ((0, 0),), 'room']
>>> for step in (Hear("receiver", 0), Act("sender", 1), Hear("receiver", 0)): run.do(step)
>>> [run.out, run.outs, run.is_true, run.seen(0), run.seen(1), run.answers()]
[('p', 'p'), (0, 0), False, '1 2 0 a - 0 - 00', '1 0 0 . - 0 - 00', (0, 0)]
>>> [str(run.undo()), run.is_true, str(Step.read("receiver 0 place 1 stays"))]
['receiver 0 place 0', True, 'receiver 0 place 1 stays']
>>> run.do(Act("sender", 0))
raises Blocked('boxes')
"""

PICTURES = """
>>> from markedpair.pictures import Change, is_picture, moves, reached, start, unmarked
>>> rows = ["0 empty 0 : take 0 > 0", "0 full 0 : send 0 0 > 0", "0 hear 0 full 0 : clear 0 > 0"]
>>> again = Link(Sender(*[Row.read(row) for row in rows]), Receiver(Row.read("0 hear 0 : put 0 , out 0 , answer 0 > 0")), Channel(1), Channel(1))
>>> [start(again, 1), [(str(one.step), one.sign, one.then, one.breaks) for one in moves(again, start(again, 1))]]
['1 0 0 - - 0 - -', [('sender 0', '.', '1 0 0 . - 0 - -', False), ('sender 0', 'a', '1 1 0 a - 0 - -', False)]]
>>> [(one.sign, one.then, one.breaks) for one in moves(again, "1 1 0 a 0a 0 - -")]
[(None, '1 2 0 a - 0 - 0', False)]
>>> [(one.then, one.breaks) for one in moves(again, "1 2 0 - 0a 0 - -")]
[('1 2 0 . 0a 0 - -', False), (None, True)]
>>> [(one.then, one.breaks) for one in moves(again, "2 2 0 b 0a 0 - -")]
[(None, False)]
>>> [is_picture(again, "1 2 0 . 0. 0 - -"), is_picture(again, "1 1 0 . 0. 0 - -"), unmarked("2 2 0 b 0a 0 - -")]
[False, True, '0 0 0 . 0. 0 - -']
>>> reached(Link(Sender(), Receiver(), Channel(1), Channel(2)), 2)
('2 0 0 - - 0 - -',)
"""

JUDGED = """
>>> from markedpair.judged import Broken, Kept, Verdict, judge
>>> from markedpair.look_judged import shows_judged
>>> told = judge(again)
>>> [bool(told), len(told.steps), shows_judged(again, told), shows_judged(again, Broken(told.steps[:5])), shows_judged(again, Broken(told.steps + told.steps[:1]))]
[False, 6, True, False, True]
>>> mute = Link(Sender(), Receiver(), Channel(1), Channel(1))
>>> [judge(mute) == Kept(("1 0 0 - - 0 - -",), ("2 0 0 - - 0 - -",)), shows_judged(mute, judge(mute)), shows_judged(mute, Kept(("1 0 0 - - 0 - -",), ())), shows_judged(again, judge(mute))]
[True, True, False, False]
>>> judge(again, limit=1)
raises TooMany('pictures', 1)
"""

GOING = """
>>> from markedpair.deeds import Answer, Clear, Out, Put, Send, Take
>>> from markedpair.ends import Receiver, Sender
>>> from markedpair.going import Goes, Stuck, goes_on
>>> from markedpair.links import Link
>>> from markedpair.look_going import shows_going
>>> from markedpair.rows import Row
>>> once = Sender(Row(0, Take(0), Send(0, 0), then=1, empty=(0,)), Row(1, Clear(0), then=0, hear=0))
>>> reply = Receiver(Row(0, Put(0), Out(0), Answer(0), then=0, hear=0))
>>> calm, lossy = [Link(once, reply, channel, channel) for channel in (Channel(1), Channel(1, Loses()))]
>>> goes_on(calm).ranks
(('1 0 0 - - 0 - -', 1), ('1 0 1 . - 0 - 0', 2), ('1 0 1 . 0. 0 - -', 3), ('1 1 1 a 0a 0 - -', 1))
>>> stuck = goes_on(lossy)
>>> [bool(stuck), len(stuck.steps), str(stuck.steps[0]), str(stuck.steps[1]), len(stuck.lot), shows_going(lossy, stuck), shows_going(calm, stuck)]
[False, 2, 'sender 0', 'lose down 0', 1, True, False]
"""

BORNE = """
>>> from markedpair.borne import borne
>>> from markedpair.look_borne import shows_borne
>>> found = borne(calm, "down")
>>> [[str(channel) for channel, paper in rows] for rows in (found.kept, found.broken)]
[['1 loses overtakes 2'], ['1 doubles']]
>>> [len(found.broken[0][1].steps), str(found.broken[0][1].steps[1]), shows_borne(calm, "down", found)]
[4, 'receiver 0 place 0 stays', True]
"""

FAMILIES = """
>>> from markedpair.channels import Channel, Loses
>>> from markedpair.families import all_so_far, each_by_itself, least_numbers, one_by_one
>>> two = one_by_one(2)
>>> [len(two[0]), len(two[1]), str(two[0][2]), str(two[1][3])]
[8, 4, '0 hear 0 full 0 : clear 0 > 1', '1 hear other : answer 0 > 1']
>>> [str(row) for row in list(all_so_far(2, 3)[0])[4:8]]
['0 hear 1 empty 1 full 0 : clear 0 > 1', '0 hear 1 full 1 : move 1 0 > 1', '0 hear 2 full 1 : clear 0 , clear 1 > 2', '0 hear other : - > 0']
>>> [len(end) for end in (*all_so_far(2, 3), *each_by_itself(2, 4), *each_by_itself(1, 3))]
[24, 6, 44, 20, 12, 9]
>>> [str(each_by_itself(2, 4)[0][at]) for at in (8, 32)]
['1 empty 0 : take 0 > 1', '4 full 0 : send 0 0 > 4']
>>> [least_numbers("one_by_one", 1, Channel(1), Channel(1)), least_numbers("all_so_far", 2, Channel(1), Channel(1, Loses()))]
[2, 3]
>>> each_by_itself(3, 2)
raises BadCount(3)
"""

USED = """
>>> from markedpair.deeds import Clear, Out, Put, Send, Take
>>> from markedpair.ends import Receiver, Sender
>>> from markedpair.links import Link
>>> from markedpair.rows import Row
>>> from markedpair.steps import Act, Hear
>>> from markedpair.used import Idle, first_use, idle_rows, without_idle
>>> from markedpair.look_used import shows_idle
>>> plain = Link(Sender(Row(0, Take(0), then=1, empty=(0,)), Row(1, Send(0, 0), then=1), Row(2, Clear(0), then=0)), Receiver(Row(0, Put(0), Out(0), then=0, hear=0), Row(0, then=0, hear=1)), Channel(1), Channel(1))
>>> idle = idle_rows(plain)
>>> [idle.table, idle.rows]
[('0 0 0 - - 0 - -', '0 0 1 . - 0 - -', '0 0 1 . 0. 0 - -'), (('sender', 2), ('receiver', 1))]
>>> [first_use(plain, "receiver", 0) == (Act("sender", 0), Act("sender", 1), Hear("receiver", 0)), first_use(plain, "sender", 2), shows_idle(plain, idle), shows_idle(plain, Idle(idle.table[:2], idle.rows))]
[True, None, True, False]
>>> [len(without_idle(plain).sender), len(without_idle(plain).receiver)]
[2, 1]
"""

LOGS = """
>>> from markedpair.logs import explained, first_wrong, log_of, next_entries
>>> from markedpair.runs import Run
>>> run = Run.of(plain, first_use(plain, "receiver", 0), ["m"])
>>> [log_of(run), first_wrong(plain, log_of(run)), first_wrong(plain, ["sent 0", "heard 0", "heard 0"]), explained(plain, ["heard 0"])]
[('sent 0', 'heard 0'), None, 2, None]
>>> [next_entries(plain, []), next_entries(plain, ["sent 0"]), next_entries(plain, ["got 1"]), len(explained(plain, ["sent 0", "heard 0"]))]
[('sent 0',), ('heard 0',), (), 3]
>>> first_wrong(plain, ["sent 0", "sent 7"])
raises BadLog(1)
"""

BENCH = """
>>> from markedpair.bench import Bench
>>> sender = Sender.read("0 empty 0 : take 0 > 0 ; 0 : send 0 0 > 0 ; 0 hear 0 : clear 0 > 0")
>>> receiver = Receiver.read("0 hear 0 : put 0 , out 0 , answer 0 > 0")
>>> bench = Bench(sender, receiver)
>>> [bench.add("receiver", Row(0, Answer(0), then=0)), str(bench["sender", 2]), len(bench), len(bench.ends()[1])]
[1, '0 hear 0 : clear 0 > 0', 1, 2]
>>> bench["sender", 2] = Row(0, Clear(0), then=1, hear=0)
>>> [bench.ends()[0].states, bench.undo(), bench.undo(), bench.ends() == (sender, receiver), bool(bench)]
[(0, 1), 'set', 'add', True, False]
>>> bench.tried(lambda same: (str(same.drop("sender", 0)), len(same.ends()[0])))
('0 empty 0 : take 0 > 0', 2)
>>> bench.drop("sender", 3)
raises NoRow(3)
"""

TEXTS = """
>>> from markedpair.channels import Channel
>>> from markedpair.links import Link
>>> from markedpair.reader import read_link, read_steps, read_verdict
>>> from markedpair.texts import link_text, steps_text, verdict_text
>>> link = Link(sender, receiver, Channel(1), Channel(2))
>>> [link_text(link).split("\\n")[:3], read_link(link_text(link)) == link, read_steps("-")]
[['down 1', 'up 2', 'sender 0 empty 0 : take 0 > 0'], True, ()]
>>> [steps_text(read_steps("sender 0\\nsender 1")), read_verdict("broken\\nsender 0") == read_verdict("broken\\nsender 1")]
['sender 0\\nsender 1', False]
>>> read_link("down 1\\nup 2\\nreceiver 0 : answer 0 > 0\\nsender 0 : - > 0")
raises BadText(3, 0)
>>> read_link("down 1\\nup 2\\nsender 0 : put 0 > 0")
raises BadText(2, 3)
"""

DESK = """
>>> from markedpair.desk import Desk
>>> desk = Desk()
>>> desk.run_lines("one s r 2", "channel c 1 loses", "link l s r c c", "judge l", "one s t 1", "channel d 2", "link m s t c d", "judge m", "way m", "undo", "show d")
['ok', 'ok', 'ok', 'kept', 'ok', 'ok', 'ok', 'broken 5', 'sender 0 ; sender 1 ; receiver 0 place 0 ; sender 1 ; receiver 0 place 0', 'ok', '2']
>>> desk.run_lines("run u l 3", "do u sender 0", "do u sender 1", "do u receiver 0 place 0", "out u", "do u sender 4", "log u", "undo", "out u")
['ok', 'ok', 'ok', 'ok', '0', 'blocked state', 'sent 0 ; heard 0 ; answered 0', 'ok', '-']
>>> desk("show m")
raises NoName('m')
>>> desk("channel x 4")
raises BadCommand(2)
"""


def examples_of(text):
    """The pairs of what is asked and what it gives, None if it gives nothing."""
    found = []
    for line in text.strip().split("\n"):
        if line.startswith(">>> "):
            found.append((line[4:], None))
        else:
            found[-1] = (found[-1][0], line)
    return found


class TestExamples(unittest.TestCase):

    def assert_example(self, asked, given, names):
        if given is None:
            exec(asked, names)
        elif given.startswith("raises "):
            wanted = eval(given[7:], {**vars(errors), **names})
            with self.assertRaises(type(wanted)) as caught:
                eval(asked, names)
            self.assertIs(type(caught.exception), type(wanted), asked)
            self.assertEqual(vars(caught.exception), vars(wanted), asked)
        else:
            self.assertEqual(repr(eval(asked, names)), given, asked)

    def test_all_of_them(self):
        names = {}
        for text in (DEEDS, ROWS, ENDS, CHANNELS, STEPS, RUNS, PICTURES, JUDGED, GOING, BORNE, FAMILIES, USED, LOGS, BENCH, TEXTS, DESK):
            for asked, given in examples_of(text):
                self.assert_example(asked, given, names)
