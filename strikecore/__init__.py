"""Strikecore: finite orders as spaces, and what is left of them."""
