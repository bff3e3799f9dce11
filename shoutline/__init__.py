"""Shoutline: many hands on one line, by hush, word and din."""
