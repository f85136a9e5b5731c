"""Rows, sorts of hands, and programs."""

from handlesagain.checks import are_names, is_count, is_index, is_listing, is_name
from handlesagain.errors import InvalidName, InvalidNumber, InvalidProgram, InvalidRow, InvalidSort

WORDS = ("open", "close", "renew", "use", "set", "drop", "lock", "unlock", "go", "rest")
DEEDS = ("close", "renew", "use")

MOST_SORTS = 3
MOST_ROWS = 10
MOST_GOALS = 4
MOST_NAMES = 2


def is_row(value):
    """Whether any value is a row."""
    if not isinstance(value, tuple) or len(value) == 0:
        return False
    word = value[0]
    # An object of another kind might not bear a comparison.
    if not isinstance(word, str) or word not in WORDS:
        return False
    if word == "go":
        return 1 <= len(value) - 1 <= MOST_GOALS and all([is_count(goal) for goal in value[1:]])
    return len(value) - 1 == _names_needed(word) and all([is_name(name) for name in value[1:]])


def _names_needed(word):
    """How many names stand behind a word other than go."""
    if word == "set":
        return 2
    return 0 if word == "rest" else 1


def _is_row_among(value, many):
    """Whether any value is a row that can stand in a sort of so many rows."""
    if not is_row(value):
        return False
    # A hand may also go behind the last row.
    return value[0] != "go" or all([goal <= many for goal in value[1:]])


def _variables_of(row):
    """The names of the variables of a row."""
    return () if row[0] in ("lock", "unlock", "go") else row[1:]


def _locks_of(row):
    """The names of the locks of a row."""
    return row[1:] if row[0] in ("lock", "unlock") else ()


def replaced(items, at, item):
    """The tuple with another item at a place."""
    return items[:at] + (item,) + items[at + 1:]


def places_of(program, sort, first):
    """The dict of the places of what a sort can name: common variables, own ones from a first place on, and locks."""
    places = {name: at for at, name in enumerate(program.common)}
    for at, name in enumerate(sort.own):
        places[name] = first + at
    # Locks have places of their own: a name in a row is that of a variable or of a lock, never of both.
    for at, name in enumerate(program.locks):
        places[name] = at
    return places


def placed(rows, places):
    """The tuple of the rows, with the place of each variable and lock instead of its name."""
    return tuple([_placed_row(row, places) for row in rows])


def _placed_row(row, places):
    """The row with places instead of names."""
    if row[0] == "go":
        return row
    return (row[0],) + tuple([places[name] for name in row[1:]])


class Sort:
    """A sort of hands: a name, rows and own variables."""

    def __init__(self, name, rows, *, own=()):
        if not is_name(name):
            raise InvalidName(name)
        if not is_listing(rows) or not 1 <= len(rows) <= MOST_ROWS:
            raise InvalidRow(rows)
        for row in rows:
            if not _is_row_among(row, len(rows)):
                raise InvalidRow(row)
        if not are_names(own, MOST_NAMES):
            raise InvalidName(own)
        self._name = name
        self._rows = tuple(rows)
        self._own = tuple(own)

    @property
    def name(self):
        """The name of the sort."""
        return self._name

    @property
    def rows(self):
        """The tuple of the rows."""
        return self._rows

    @property
    def own(self):
        """The tuple of the names of the own variables."""
        return self._own

    def __getitem__(self, at):
        if not is_index(at, len(self._rows)):
            raise InvalidNumber(at)
        return self._rows[at]

    def __iter__(self):
        raise TypeError("a sort is not iterated over")

    def __len__(self):
        return len(self._rows)

    def __contains__(self, x):
        # Python takes True for 1, also inside tuples; is_row does not.
        return is_row(x) and x in self._rows

    def __eq__(self, other):
        return (isinstance(other, Sort) and self._name == other._name
                and self._rows == other._rows and self._own == other._own)

    def changed(self, at, row):
        """Return the sort with another row at a place."""
        if not is_index(at, len(self._rows)):
            raise InvalidNumber(at)
        return Sort(self._name, replaced(self._rows, at, row), own=self._own)


def _are_sorts(values):
    """Whether the values are one to three sorts of unlike names."""
    if not 1 <= len(values) <= MOST_SORTS or not all([isinstance(value, Sort) for value in values]):
        return False
    return len({sort.name for sort in values}) == len(values)


def _fits(sort, common, locks):
    """Whether each name in the sort means just one thing beside these tuples of names."""
    if any([name in common or name in locks for name in sort.own]):
        return False
    variables = sort.own + common
    if not all([name in variables for row in sort.rows for name in _variables_of(row)]):
        return False
    return all([name in locks for row in sort.rows for name in _locks_of(row)])


class Program:
    """Sorts of hands, with common variables and locks."""

    def __init__(self, *sorts, common=(), locks=()):
        if not _are_sorts(sorts):
            raise InvalidSort(sorts)
        if not are_names(common, MOST_NAMES):
            raise InvalidName(common)
        if not are_names(locks, MOST_NAMES) or any([name in common for name in locks]):
            raise InvalidName(locks)
        self._sorts = sorts
        self._common = tuple(common)
        self._locks = tuple(locks)
        for sort in sorts:
            if not _fits(sort, self._common, self._locks):
                raise InvalidProgram(sort.name)

    @property
    def sorts(self):
        """The tuple of the sorts."""
        return self._sorts

    @property
    def common(self):
        """The tuple of the names of the common variables."""
        return self._common

    @property
    def locks(self):
        """The tuple of the names of the locks."""
        return self._locks

    def __getitem__(self, at):
        if is_name(at):
            for sort in self._sorts:
                if sort.name == at:
                    return sort
        raise InvalidName(at)

    def __iter__(self):
        raise TypeError("a program is not iterated over")

    def __len__(self):
        return len(self._sorts)

    def __contains__(self, x):
        return is_name(x) and x in [sort.name for sort in self._sorts]

    def __eq__(self, other):
        return (isinstance(other, Program) and self._sorts == other._sorts
                and self._common == other._common and self._locks == other._locks)

    def __or__(self, other):
        if not isinstance(other, Program) or self._common != other._common or self._locks != other._locks:
            raise InvalidProgram(other)
        sorts = self._sorts + other._sorts
        return Program(*sorts, common=self._common, locks=self._locks)

    @staticmethod
    def lone(sort):
        """Return the program of one sort."""
        return Program(sort)

    @staticmethod
    def pair():
        """Return a program in which one sort closes what another one uses."""
        giver = Sort("giver", (("open", "c"), ("close", "c")))
        user = Sort("user", (("set", "v", "c"), ("use", "v")), own=("v",))
        return Program(giver, user, common=("c",))
