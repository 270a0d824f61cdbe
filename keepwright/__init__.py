"""Keepwright: folders kept over time by pieces, any day given back whole."""
