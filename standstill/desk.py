"""The desk: rows told and dropped, and all that can be asked of them."""

from standstill.asks import in_all, in_some
from standstill.errors import NoRow, NoThing
from standstill.judge import judged
from standstill.kinds import kinds_of
from standstill.marks import marks, numbers
from standstill.putting import plain_of
from standstill.reading import read_row
from standstill.seek import worlds
from standstill.showing import shown_row, shown_rule


class Desk:
    """Keeps rows, one behind the other. Of them as they stand all is asked anew."""

    def __init__(self):
        self.kept = []

    def tell(self, line):
        """Keeps one more row, and tells its number; or NoRow, or BadName."""
        row = read_row(line)
        kinds_of(self.kept + [row])
        self.kept.append(row)
        return len(self.kept) - 1

    def drop(self, number):
        """Drops the row with the number; or NoRow, or BadName."""
        if not 0 <= number < len(self.kept):
            raise NoRow(f"no row has the number {number}")
        rest = self.kept[:number] + self.kept[number + 1:]
        kinds_of(rest)
        self.kept = rest

    def rows(self):
        """The rows, as shown."""
        return [shown_row(row) for row in self.kept]

    def things(self):
        """The texts of the things."""
        return plain_of(self.kept)[0]

    def rules(self):
        """The plain rules, as shown."""
        put = plain_of(self.kept)
        return [shown_rule(rule, put[0]) for rule in put[1][1]]

    def found(self, most=1):
        """The first worlds, as many as are asked for; whether they are all; and then a paper of it."""
        put = plain_of(self.kept)
        sought = worlds(put[1], most)
        return ([texts_of(world, put[0]) for world in sought[0]], sought[1], sought[2])

    def judge(self, texts):
        """Whether the things with these texts stand, or what is in the way of it."""
        put = plain_of(self.kept)
        some = numbers(marks(len(put[0]), [number_of(text, put[0]) for text in texts]))
        return shown_judged(judged(put[1], some), put)

    def is_sure(self, text):
        """Whether the thing is in all worlds: no, with a world, or yes, with a paper."""
        put = plain_of(self.kept)
        answer = in_all(put[1], number_of(text, put[0]))
        return with_texts(answer, put[0]) if answer[0] == "no" else answer

    def is_open(self, text):
        """Whether the thing is in some world: yes, with a world, or no, with a paper."""
        put = plain_of(self.kept)
        answer = in_some(put[1], number_of(text, put[0]))
        return with_texts(answer, put[0]) if answer[0] == "yes" else answer


def number_of(text, table):
    """The number of the thing with the text; or NoThing."""
    if text not in table:
        raise NoThing(f"no thing is {text!r}")
    return table.index(text)


def texts_of(some, table):
    return [table[thing] for thing in some]


def with_texts(answer, table):
    """The answer with texts in the place of its set of things."""
    return (answer[0], texts_of(answer[1], table))


def shown_judged(answer, put):
    """What was judged, with things and rules as texts."""
    table = put[0]
    rules = put[1][1]
    if answer[0] == "broken":
        return ("broken", shown_rule(rules[answer[1]], table))
    if answer[0] == "group":
        return with_texts(answer, table)
    return ("stands", [(table[thing], shown_rule(rules[number], table)) for thing, number in answer[1]])
