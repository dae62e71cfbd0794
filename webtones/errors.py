"""The refusals of webtones."""


class ToneError(ValueError):
    """Any refusal."""


class NoRoot(ToneError):
    """There is no such root."""


class NoParting(ToneError):
    """The places are not parted, or do not hang together, as is asked for."""


class NoAsk(ToneError):
    """The desk is not asked so."""


class NoWeb(ToneError):
    """There is no such web; row is the first row, counted from 0, that is wrong."""

    def __init__(self, row):
        super().__init__(f"no web: row {row} is wrong")
        self.row = row


class NoName(ToneError):
    """The word is not a name that may stand there."""

    def __init__(self, word):
        super().__init__(f"no name: {word}")
        self.word = word
