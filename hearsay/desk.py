"""The desk: keeps a net and a tale, and answers rows of words."""

from hearsay.acts import first_act, in_row
from hearsay.errors import HearError
from hearsay.nets import check_net, path_mosts
from hearsay.plans import fastest, surely
from hearsay.tales import check_tale, check_turns, run_key
from hearsay.words import (NoRow, Reader, is_name, read_house, read_houses, read_name, read_number,
                           read_number_or_none, read_sentence)

MOST_SIGNS = 40


class Desk:
    def __init__(self):
        self.begin((1, []))

    def say(self, row):
        # Each row is read to its end ahead of any check, so what goes ahead of no.
        try:
            return self.answer(Reader(row))
        except NoRow:
            return "what"
        except HearError:
            return "no"

    def answer(self, reader):
        kind = reader.take()
        if kind == "net":
            return self.put_net(reader)
        if kind == "path":
            return self.put_path(reader)
        if kind == "turns":
            return self.put_turns(reader)
        if kind == "sign":
            return self.put_sign(reader)
        if kind == "late":
            return self.put_late(reader)
        return self.tell(kind, reader)

    def tell(self, kind, reader):
        if kind == "ask":
            return self.tell_ask(reader)
        if kind == "act":
            return self.tell_act(reader)
        if kind == "row":
            return self.tell_row(reader)
        if kind == "sure":
            return self.tell_sure(reader)
        raise NoRow(f"no row begins so: {kind}")

    def put_net(self, reader):
        net = (read_number(reader), [])
        reader.finish()
        check_net(net)
        self.begin(net)
        return "ok"

    def put_path(self, reader):
        path = (read_number(reader), read_number(reader), read_number_or_none(reader))
        reader.finish()
        net = (self.net[0], self.net[1] + [path])
        check_net(net)
        self.begin(net)
        return "ok"

    def begin(self, net):
        self.net = net
        self.tale = fastest(net, 0, [])

    def put_turns(self, reader):
        last = read_number(reader)
        reader.finish()
        # Ahead of the tale itself: with a last turn of sixty figures it would never be made.
        check_turns((last, [], []))
        self.tale = fastest(self.net, last, [])
        return "ok"

    def put_sign(self, reader):
        sign = (read_number(reader), read_number(reader), reader.take())
        reader.finish()
        signs = self.tale[2] + [sign]
        if len(signs) > MOST_SIGNS or not is_name(sign[2]):
            return "no"
        return self.put_tale((self.tale[0], self.tale[1], signs))

    def put_late(self, reader):
        run = (read_number(reader), read_number(reader), read_number(reader), read_number_or_none(reader))
        reader.finish()
        # Of a run that never comes the check of the tale sees nothing.
        if (run[0], run[1]) not in path_mosts(self.net) or run[2] >= self.tale[0]:
            return "no"
        runs = [other for other in self.tale[1] if run_key(other) != run_key(run)]
        if run[3] is not None:
            runs.append(run)
        return self.put_tale((self.tale[0], runs, self.tale[2]))

    def put_tale(self, tale):
        check_tale(self.net, tale)
        self.tale = tale
        return "ok"

    def tell_ask(self, reader):
        sentence = read_sentence(self.net, self.tale, reader)
        reader.finish()
        return "yes" if sentence.holds(self.net, self.tale) else "no"

    def tell_act(self, reader):
        name = read_name(reader)
        houses = read_houses(self.net, reader)
        reader.finish()
        return number_or("never", first_act(self.net, self.tale, name, houses))

    def tell_row(self, reader):
        name = read_name(reader)
        houses = read_houses(self.net, reader)
        reader.finish()
        return " ".join([number_or("-", turn) for turn in in_row(self.net, self.tale, name, houses)])

    def tell_sure(self, reader):
        house = read_house(self.net, reader)
        houses = read_houses(self.net, reader)
        reader.finish()
        return number_or("never", surely(self.net, house, houses))


def number_or(other, number):
    return other if number is None else str(number)
