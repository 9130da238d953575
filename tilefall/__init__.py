"""Tilefall: long rows of standing tiles that topple one another."""
