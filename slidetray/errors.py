"""The errors that refusals raise."""


class TrayError(ValueError):
    """Any refusal of this package."""


class BadTray(TrayError):
    """What was handed in as a tray is none."""


class BadSlides(TrayError):
    """What was handed in as slides is none, or leads off the tray."""


class Unlike(TrayError):
    """Two trays have other sides."""
