"""Tests of strikecore."""
