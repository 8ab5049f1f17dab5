"""Floors sewn of squares, sheared and turned."""
