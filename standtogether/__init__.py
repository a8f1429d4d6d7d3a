"""Guests in a row, each party side by side."""
