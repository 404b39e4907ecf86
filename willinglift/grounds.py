"""Standings that have the lift on the ground floor."""

from willinglift.errors import NotGround


def check_ground(standing):
    """Refuses a standing whose lift is not on the ground floor."""
    if standing.lift != 0:
        raise NotGround()
