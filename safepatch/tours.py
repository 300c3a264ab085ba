"""Tours: the cheapest changes of a file to some texts, one after the other, or what shows that there are none."""

from safepatch.errors import BadTexts
from safepatch.files import check_file, file_state
from safepatch.moves import Moves
from safepatch.plans import changed_file, least_cost
from safepatch.states import is_text, state_text
from safepatch.ways import END, are_closed, are_floors, search
from safepatch.writes import cost_of

MOST_TEXTS = 4


class Tour:
    """Changes, one for each text, that cost least together, and floors that show that none cost less."""

    def __init__(self, parts, floors):
        self.parts = list(parts)
        self.floors = {spot: floors[spot] for spot in floors}

    def __eq__(self, other):
        return isinstance(other, Tour) and self.parts == other.parts and self.floors == other.floors

    def shows(self, file, texts):
        """Return whether the parts are a tour through some texts, and the floors show that none costs less."""
        check_file(file)
        check_texts(file, texts)
        cost = cost_of_parts(file, texts, self.parts)
        return cost is not None and are_floors(TourGraph(file, texts), cost, self.floors)


class NoTour:
    """Spots that show that there is no tour: they are open, and no step leads out of them."""

    def __init__(self, spots):
        self.spots = list(spots)

    def __eq__(self, other):
        return isinstance(other, NoTour) and self.spots == other.spots

    def shows(self, file, texts):
        """Return whether the spots show that there is no tour through some texts."""
        check_file(file)
        check_texts(file, texts)
        return are_closed(TourGraph(file, texts), self.spots)


class TourGraph:
    """The open spots of the tours of a file through some texts, with the steps between them."""

    def __init__(self, file, texts):
        self.moves = Moves(file)
        self.least_price = self.moves.least_price
        self.texts = [file.text, *texts]
        self.start = (0, file_state(file))

    def is_open(self, spot):
        """Return whether a spot is open."""
        stage, state = spot
        return 0 <= stage < len(self.texts) - 1 and state_text(state) == self.texts[stage]

    def steps(self, spot):
        """Return the list of the steps from an open spot."""
        stage, state = spot
        old, new = self.texts[stage:stage + 2]
        found = []
        for write, price, left, text in self.moves.safe(state, (old, new)):
            reached = stage if text == old else stage + 1
            found.append((write, price, (reached, left) if reached < len(self.texts) - 1 else END))
        return found


def tour(file, texts):
    """Return a Tour of a file through some texts, or a NoTour if there is no tour."""
    check_file(file)
    check_texts(file, texts)
    found = search(TourGraph(file, texts))
    if found.least_cost() is None:
        return NoTour(found.nodes())
    way = found.way()
    parts = [tuple([write for (stage, _), write in way if stage == at]) for at in range(len(texts))]
    return Tour(parts, found.bounds())


def tour_cost(file, texts):
    """Return the cost of the cheapest tour of a file through some texts, None if there is no tour."""
    check_file(file)
    check_texts(file, texts)
    return search(TourGraph(file, texts)).least_cost()


def alone(file, texts):
    """Return the list of what the cheapest changes of the file itself to each of some texts cost."""
    check_file(file)
    check_texts(file, texts)
    return [least_cost(file, text) for text in texts]


def check_texts(file, texts):
    """Raise BadTexts if some texts are no list or tuple of texts through which a tour of the file can lead."""
    if not isinstance(texts, (list, tuple)) or not 1 <= len(texts) <= MOST_TEXTS:
        raise BadTexts(None)
    before = file.text
    for index, text in enumerate(texts):
        if not is_text(file.letters, text) or text == before:
            raise BadTexts(index)
        before = text


def cost_of_parts(file, texts, parts):
    """Return the cost of a tour of a file through some texts, None if the parts are no such tour."""
    if len(parts) != len(texts):
        return None
    cost = 0
    for text, part in zip(texts, parts):
        reached = changed_file(file, text, part)
        if reached is None:
            return None
        cost += cost_of(file, part)
        file = reached
    return cost
