"""Worlds sought, in their order, with a paper that there are no others."""

from standstill.marks import marks, numbers
from standstill.spreading import Spreading, lost_part


def worlds(plain, most=1):
    """The first worlds, as many as are asked for; whether they are all; and then a paper of it."""
    seeking = Seeking(plain)
    firsts = []
    world = seeking.another()
    while world is not None and len(firsts) < most:
        firsts.append(world)
        world = seeking.another()
    if world is None:
        return (firsts, True, seeking.paper)
    return (firsts, False, [])


def own_why(why):
    """The same why, with a list of its own."""
    return (why[0], list(why[1])) if why[0] == "group" else why


def needed_first(order, needed):
    """The things in their order, but the needed ones ahead: they cost nothing more."""
    return [thing for thing in order if needed[thing]] + [thing for thing in order if not needed[thing]]


class Seeking(Spreading):
    """A search through all sheets. Of the undecided things the least one is put in
    by choice; where no other world can be as the choices have it, a line of the
    paper tells so, and its bar then puts the last of them out. So the worlds come
    in their order, each once."""

    def __init__(self, plain):
        Spreading.__init__(self, plain, [], [None for thing in range(plain[0])])
        self.paper = []
        self.count = 0
        self.ended = False

    def another(self):
        """The next world, or None where there is none left."""
        while not self.ended:
            why = self.settle()
            if why is not None:
                self.close(why)
            elif None in self.sheet:
                self.put(self.sheet.index(None), True, None)
            else:
                world = numbers(self.sheet)
                self.close(("world", self.count))
                self.count += 1
                return world
        return None

    def close(self, why):
        """Writes the line that ends with the why, and goes back to where its bar puts something."""
        line = self.line_to(why)
        self.paper.append(line)
        if line[0]:
            self.take_back(self.place_for(line[0]))
            self.take_bar(line[0])
        else:
            self.ended = True

    def place_for(self, bar):
        """How many steps lie ahead of the first choice behind all the bar's choices but the last."""
        places = [place for place, step in enumerate(self.steps) if step[1] is None]
        choices = [self.steps[place][0] for place in places]
        return places[0 if len(bar) == 1 else choices.index(bar[-2]) + 1]

    def line_to(self, why):
        """The bar of the choices on which the why rests, and the steps from there to it."""
        sheet = list(self.sheet)
        order = [pair[0] for pair, cause in self.steps]
        needed = marks(len(sheet), self.grounds(sheet, why, order))
        bar = []
        done = [(None, own_why(why))]
        for pair, cause in reversed(self.steps):
            thing = pair[0]
            if needed[thing] and cause is None:
                bar.append(pair)
            elif needed[thing]:
                done.append((pair, own_why(cause)))
                # The cause is right where the thing is put otherwise.
                sheet[thing] = not pair[1]
                for ground in self.grounds(sheet, cause, needed_first(order, needed)):
                    needed[ground] = True
            sheet[thing] = None
        return (list(reversed(bar)), list(reversed(done)))

    def grounds(self, sheet, why, order):
        """Things by whose entries the why is right on the sheet, rather the first ones in the order."""
        if why[0] == "world":
            return list(range(len(sheet)))
        if why[0] == "group":
            return self.grounds_of_group(sheet, why[1], order)
        things = []
        for part in self.guards[why]:
            things.extend(part.sure_by(sheet, order))
        return things

    def grounds_of_group(self, sheet, group, order):
        without = marks(len(sheet), group)
        things = [thing for thing in order if without[thing] and sheet[thing] is True][:1]
        for head, body in self.makers:
            if without[head]:
                things.extend(lost_part(body, sheet, without).lost_by(sheet, without, order))
        return things
