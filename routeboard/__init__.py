"""Routeboard: addresses led by tables of patterns."""
