"""Syntax trees."""
