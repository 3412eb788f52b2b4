"""Trays of pieces with one empty place, and the slides between them."""
