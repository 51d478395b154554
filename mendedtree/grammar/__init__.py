"""Grammars."""
