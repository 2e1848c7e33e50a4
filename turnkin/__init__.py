"""Turnkin: turnings of places, and all that come of a few of them."""
