"""The errors that the package raises."""


class SeamError(ValueError):
    """The base of all errors of the package."""


class InvalidType(SeamError):
    """A text is not a type."""


class InvalidDocument(SeamError):
    """A document does not fit the rules; its attribute tells the place."""

    def __init__(self, place):
        super().__init__(f"the document does not fit at place {place}")
        self.place = place


class InvalidSchema(SeamError):
    """Services do not compose; its attribute tells the first rule that fails."""

    def __init__(self, rule):
        super().__init__(f"the services break rule {rule}")
        self.rule = rule


class InvalidVariables(SeamError):
    """The variables that are given do not fit the document."""


class InvalidRequest(SeamError):
    """A request is not one for this service."""
