"""Sites: tables by names, which go back and forth step by step, and their texts."""

from routeboard.errors import NoBack, NoSite, NoText
from routeboard.mounting import joined, mounted
from routeboard.patterns import is_name
from routeboard.tables import first
from routeboard.texts import lines_of, read_table, written_table


class Site:
    def __init__(self):
        self.tables = {}
        # Each step is a tuple of its word, the name, and the tables of this name ahead of it and behind it,
        # None where there is none.
        self.done = []
        self.undone = []

    def set_table(self, name, table):
        if table is None:
            self.tables.pop(name)
        else:
            self.tables[name] = table

    def do_step(self, word, name, table):
        self.done.append((word, name, self.tables.get(name), table))
        self.undone = []
        self.set_table(name, table)

    def put(self, name, table):
        if not is_name(name):
            raise NoSite("this is no name")
        had_one = name in self.tables
        self.do_step("put", name, table)
        return had_one

    def table_of(self, name):
        # What is no name is asked first, since not every thing can be looked for in a dict.
        if not is_name(name) or name not in self.tables:
            raise NoSite("no table has this name")
        return self.tables[name]

    def take(self, name):
        table = self.table_of(name)
        self.do_step("take", name, None)
        return table

    def mount(self, name, ahead, other):
        one = self.table_of(name)
        table = joined(one, mounted(ahead, self.table_of(other)))
        self.do_step("mount", name, table)
        return table

    def lead(self, address):
        led_to = [(name, first(self.tables[name], address)) for name in self.names()]
        return [pair for pair in led_to if pair[1] is not None]

    def names(self):
        return sorted(self.tables)

    def go(self, steps, others, at):
        """The last of these steps goes over to the others, and the table that it has at this place is set."""
        if len(steps) == 0:
            raise NoBack("there is no such step")
        step = steps.pop()
        others.append(step)
        self.set_table(step[1], step[at])
        return step[0]

    def back(self):
        return self.go(self.done, self.undone, 2)

    def forth(self):
        return self.go(self.undone, self.done, 3)

    def counts(self):
        return (len(self.done), len(self.undone))

    def twin(self):
        site = Site()
        site.tables = dict(self.tables)
        site.done = list(self.done)
        site.undone = list(self.undone)
        return site


def site_text(site):
    return "".join([f"[{name}]\n" + written_table(site.table_of(name)) for name in site.names()])


def tables_by_heads(text):
    """A dict of the lines with names, as they stand, and the texts behind each, up to the next one."""
    found = {}
    head = None
    for line in lines_of(text):
        if line.startswith("["):
            head = line
            found[head] = ""
        elif head is None:
            raise NoText("a row stands ahead of all names")
        else:
            found[head] += line + "\n"
    return found


def name_in(head):
    name = head[1:-1]
    if not is_name(name):
        raise NoText("no name stands in square brackets")
    return name


def read_site(text):
    if not isinstance(text, str):
        raise NoText("this is no text")
    site = Site()
    for head, rows in tables_by_heads(text).items():
        site.set_table(name_in(head), read_table(rows))
    # Brackets left open, names that do not rise and names that stand twice are seen by this.
    if site_text(site) != text:
        raise NoText("this is the writing of no site")
    return site
