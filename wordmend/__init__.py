"""Wordmend: a keeper of words."""
