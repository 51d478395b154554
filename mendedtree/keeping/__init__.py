"""Keeping the trees of texts that are edited."""
