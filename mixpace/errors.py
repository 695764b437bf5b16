"""The errors that the program raises."""


class KitchenError(ValueError):
    """The base class of all errors that the program raises."""


class InvalidLine(KitchenError):
    """A line does not write a dish; `word` is the index of the first invalid word."""

    def __init__(self, word):
        super().__init__(f"word {word} of the line is invalid or missing")
        self.word = word


class InvalidDish(KitchenError):
    """A dish has an invalid name, an invalid need or no need."""


class InvalidKitchen(KitchenError):
    """The tools of a kitchen are invalid."""


class EmptyRegion(KitchenError):
    """A region object is made of no mixes."""


class UnknownTool(KitchenError):
    """`tool` is not a tool of the kitchen."""

    def __init__(self, tool):
        super().__init__(f"the kitchen has no tool {tool}")
        self.tool = tool


class NoDish(KitchenError):
    """`index` is not the index of a dish of the menu."""

    def __init__(self, index):
        super().__init__(f"no dish of the menu has the index {index}")
        self.index = index


class NotEnough(KitchenError):
    """A dish does not fit: in beat `beat` there is not enough of `tool`."""

    def __init__(self, beat, tool):
        super().__init__(f"there is not enough of {tool} in beat {beat}")
        self.beat = beat
        self.tool = tool


class InvalidRow(KitchenError):
    """A row has an invalid window; `beat` is the index of the first one."""

    def __init__(self, beat):
        super().__init__(f"window {beat} of the row is invalid or missing")
        self.beat = beat


class InvalidMix(KitchenError):
    """`mix` is a tuple with fewer than 1 beats."""

    def __init__(self, mix):
        super().__init__("a mix has at least 1 beat")
        self.mix = mix


class Barred(KitchenError):
    """`side` is the first side of the region that bars the mix."""

    def __init__(self, side):
        super().__init__("the mix does not belong to the region")
        self.side = side


class Beaten(KitchenError):
    """`ring` is a ring that beats the bound."""

    def __init__(self, ring):
        super().__init__("the bound does not hold for the kitchen")
        self.ring = ring
