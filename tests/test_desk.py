"""A desk: requests and their answers, refusals, wrong lines, and walks of requests beside a slow second way."""

import random
import unittest

from boards import Refused, SlowBoard, Walk
from helping import check_call, check_raises, check_same
from ownlists.desk import answers
from ownlists.errors import BadLine

GREAT = 10 ** 40
START = [
    "bills food gas rent", "set ann rent gas", "set bob rent", "set cid gas food", "due rent 5", "due gas 7",
    "frame bob from - .. rent gas"]
# One good request of each kind.
REQUESTS = [
    "due gas 5", "pay ann 8", "set bob rent gas", "set dan -", "leave cid", "lift bob", "add bob gas",
    "frame ann from rent .. *", "frame bob from * .. rent", "open", "shares ann 8", "back", "good", "odd", "above bob",
    "doubled", "effect cid gas", "effect cid -", "undo"]


def text_of(row):
    return " ".join(row) if row else "-"


def request_of(deed):
    """The request for this deed, told as in an attempt."""
    word, name, *told = deed
    if word == "frame":
        low, high = ["*" if bound is None else text_of(bound) for bound in told]
        return f"frame {name} from {low} .. {high}"
    if word == "set":
        return f"set {name} {text_of(told[0])}"
    return " ".join([word, name, *[str(part) for part in told]])


class Answers(unittest.TestCase):

    def check_answers(self, pairs, start=()):
        """Each pair: a request, and its answer, behind the requests of the start."""
        lines = list(start) + [request for request, answer in pairs]
        expected = ["done"] * len(start) + [answer for request, answer in pairs]
        check_call(self, answers, expected, text="\n".join(lines))

    def test_no_requests(self):
        check_call(self, answers, [], text="")
        for line in ("bills -", "bills a", "bills a b", "bills abcdefgh zzzzzzzz", "bills bills end undo"):
            check_call(self, answers, ["done"], text=line)

    def test_asked(self):
        self.check_answers([
            ("good", "no"), ("odd", "ann bob cid"), ("above bob", "ann"), ("above ann", "-"), ("doubled", "-"),
            ("shares ann 8", "rent 5; gas 3"), ("shares bob 1", "rent 1"), ("shares cid 99", "gas 7"), ("back", "0"),
            ("open", "food 0; gas 7; rent 5"), ("effect cid gas", "less"), ("effect cid food gas", "either"),
            ("effect bob rent food", "more"), ("effect cid gas food", "alike"), ("effect bob -", "less")], START)

    def test_deeds(self):
        self.check_answers([
            ("pay ann 8", "done"), ("open", "food 0; gas 4; rent 0"), ("pay bob 2", "done"), ("back", "2"),
            ("add bob gas", "done"), ("doubled", "bob"), ("undo", "yes"), ("doubled", "-"), ("undo", "yes"),
            ("back", "0"), ("set dan -", "done"), ("shares dan 5", "-"), ("pay dan 5", "done"), ("back", "5"),
            ("leave ann", "done"), ("leave dan", "done"), ("good", "yes"), ("odd", "-"), ("lift bob", "done"),
            ("set bob food", "done"), ("above bob", "-"), ("frame bob from * .. food gas rent", "done"),
            ("add bob gas", "done"), ("effect bob food gas", "alike"), ("add bob food", "refused Outside"),
            # 4 are still due for gas, which stands ahead of food in the LIST of cid.
            (f"due food {GREAT}", "done"), (f"pay cid {GREAT}", "done"), ("open", "food 4; gas 0; rent 0")], START)

    def test_refused(self):
        self.check_answers([
            ("due tax 1", "refused NoBill"), ("due ann 1", "refused NoBill"), ("pay dan 1", "refused NoPayer"),
            ("set ann tax", "refused NoBill"), ("set bob gas", "refused Outside"), ("leave dan", "refused NoPayer"),
            ("lift ann", "refused NoFrame"), ("lift dan", "refused NoPayer"), ("add dan tax", "refused NoPayer"),
            ("add bob tax", "refused NoBill"), ("add bob food", "refused Outside"), ("shares dan 1", "refused NoPayer"),
            ("frame dan from tax .. *", "refused NoPayer"), ("frame ann from tax .. *", "refused NoBill"),
            ("frame ann from * .. tax", "refused NoBill"), ("frame ann from gas .. *", "refused Outside"),
            ("frame ann from * .. rent", "refused Outside"), ("above dan", "refused NoPayer"),
            ("effect dan tax", "refused NoPayer"), ("effect ann tax", "refused NoBill"),
            ("open", "food 0; gas 7; rent 5"), ("above bob", "ann"), ("undo", "yes"), ("set bob gas", "done"),
            ("undo", "yes"), ("undo", "yes"), ("open", "food 0; gas 0; rent 5")], START)

    def test_undo(self):
        self.check_answers([("undo", "no"), ("due a 1", "done"), ("undo", "yes"), ("undo", "no"), ("undo", "no"),
                            ("set x -", "done"), ("set x -", "done"), ("undo", "yes"), ("above x", "-"),
                            ("undo", "yes"), ("above x", "refused NoPayer"), ("due b 1", "refused NoBill"),
                            ("undo", "no")], ["bills a"])

    def test_no_bills(self):
        self.check_answers([("undo", "no"), ("open", "-"), ("set x -", "done"), ("good", "yes"), ("pay x 4", "done"),
                            ("back", "4"), ("shares x 1", "-"), ("odd", "-"), ("doubled", "-"), ("set y -", "done"),
                            ("doubled", "y"), ("above x", "y"), ("effect x -", "alike"),
                            ("frame x from - .. -", "done"), ("frame y from * .. *", "done"), ("lift y", "done"),
                            ("add x a", "refused NoBill")], ["bills -"])

    def test_names_like_words(self):
        self.check_answers([("set set from end", "done"),
                            ("frame set from from .. from end", "done"), ("due from 3", "done"),
                            ("add set bills", "refused Outside"), ("shares set 4", "from 3"), ("pay set 1", "done"),
                            ("open", "bills 0; end 0; from 2"), ("leave set", "done"), ("set undo -", "done"),
                            ("set due -", "done"), ("due due 1", "refused NoBill"), ("above undo", "due")],
                           ["bills bills end from"])

    def test_the_most_lines(self):
        lines = ["bills a", "set p a"] + ["due a 1", "pay p 2"] * 29
        check_call(self, answers, ["done"] * 60, text="\n".join(lines))
        check_same(self, answers("\n".join(lines[:-1] + ["back"]))[-1], "28")


class Wrong(unittest.TestCase):

    def check_wrong(self, number, *lines):
        check_raises(self, answers, BadLine(number), text="\n".join(lines))

    def test_the_first_line(self):
        for line in ("bills b a", "bills a a", "bills", "bills ", " bills a", "bills a ", "bills  a", "Bills a", "a",
                     "-", "bills A", "bills - a", "bills a, b", "bills abcdefghi", "undo", " ", "\n", "bills a\t",
                     "bills *", "bills a b a"):
            self.check_wrong(0, line)
            self.check_wrong(0, line, "nonsense")

    def test_wrong_lines(self):
        for line in (
                "", " ", "nonsense", "bills food", "end", "Undo", "undo ", " undo", "undo 1", "open -", "open ",
                "back 0", "good yes", "odd ann", "doubled ", "due", "due gas", "due gas 0", "due gas 00", "due gas 01",
                "due gas -1", "due gas +1", "due gas 1.0", "due gas one", "due gas  1", "due  gas 1", "due gas 1 ",
                "due gas 1 1", "due Gas 1", "due 1 gas", "due gas \u0663", "due - 1", "due gasgasgas 1", "pay ann",
                "pay ann 0", "pay ann 8 8", "pay 8 ann", "set", "set ann", "set ann ", "set ann rent rent",
                "set ann rent  gas", "set ann rent gas ", "set ann - gas", "set ann *", "set Ann -", "set ann A",
                "set ann  -", "leave", "leave ", "leave ann bob", "leave Ann", "lift", "lift ann -", "add ann",
                "add ann -", "add ann gas rent", "add ann Gas", "frame", "frame ann", "frame ann from",
                "frame ann from rent", "frame ann from rent ..", "frame ann from rent .. ", "frame ann from .. *",
                "frame ann rent .. *", "frame from rent .. *", "frame ann from rent * *", "frame ann from * .. * .. *",
                "frame ann from rent rent .. *", "frame ann from rent..*", "frame Ann from * .. *",
                "frame  ann from * .. *", "frame ann from *  .. *", "frame ann  from * .. *", "frame ann from - .. * ",
                "shares ann", "shares ann 0", "shares ann x", "above", "above ann bob", "above -", "effect ann",
                "effect ann gas gas", "effect", "attempt", "twin", "name", "words"):
            self.check_wrong(len(START), *START, line)
            self.check_wrong(1, START[0], line, "nonsense", *START[1:])

    def test_the_first_wrong_line_counts_ahead_of_all_answers(self):
        for at in range(1, len(START) + 1):
            self.check_wrong(at, *START[:at], "nonsense", *START[at:], "more nonsense")
            self.check_wrong(at, *START[:at], "", *START[at:])
        # That a request would be refused is no matter.
        self.check_wrong(2, "bills -", "pay nobody 1", "nonsense")

    def test_a_sign_changed(self):
        for request in REQUESTS:
            text = "\n".join(START + [request])
            self.assertEqual(len(answers(text)), len(START) + 1)
            for changed in (request + " ", " " + request, request + "\n", request.upper(), request.replace(" ", "  "),
                            request + "%", request.replace("a", "A"), request + "\t", request[1:], "x" + request,
                            request + " -"):
                if changed != request:
                    self.check_wrong(len(START) + changed.count("\n"), *START, changed)


class Walks(unittest.TestCase):

    def slow_answer(self, slow, deed):
        """The answer to this deed in the second way."""
        if deed == ("undo",):
            return "yes" if slow.undo() else "no"
        try:
            slow.do(deed)
        except Refused as refused:
            return "refused " + refused.args[0]
        return "done"

    def asked(self, slow, walk):
        """Requests that are no deeds, with their answers."""
        yield "open", "; ".join(f"{bill} {number}" for bill, number in sorted(slow.owed.items()))
        yield "back", str(slow.back)
        yield "good", "no" if slow.odd() else "yes"
        yield "odd", text_of(slow.odd())
        yield "doubled", text_of(slow.doubled())
        payer, row = walk.payer(), walk.chance.choice(walk.rows)
        here = payer in slow.rows
        yield f"above {payer}", text_of(slow.above(payer)) if here else "refused NoPayer"
        yield f"effect {payer} {text_of(row)}", slow.effect(payer, row) if here else "refused NoPayer"
        shares = "; ".join(f"{bill} {number}" for bill, number in slow.shares(payer, 4)) if here else ""
        yield f"shares {payer} 4", (shares or "-") if here else "refused NoPayer"

    def test_walks(self):
        for seed in range(150):
            walk, slow = Walk(random.Random(seed), ("a", "b", "c"), ("p", "q", "r")), SlowBoard("abc")
            lines, expected = ["bills a b c"], ["done"]
            while len(lines) < 60:
                deed = walk.step()
                # The desk has no attempts, and no row in which a NAME stands twice.
                rows = [part for part in deed if isinstance(part, tuple)]
                if deed[0] == "attempt" or any(len(set(row)) < len(row) for row in rows):
                    continue
                lines.append("undo" if deed == ("undo",) else request_of(deed))
                expected.append(self.slow_answer(slow, deed))
                if walk.chance.random() < 0.5:
                    for request, answer in self.asked(slow, walk):
                        lines.append(request)
                        expected.append(answer)
            check_same(self, answers("\n".join(lines)), expected)


if __name__ == "__main__":
    unittest.main()
