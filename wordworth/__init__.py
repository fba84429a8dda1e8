"""Wordworth: machines that give every word a number."""
