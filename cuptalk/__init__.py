"""Cuptalk: scattered results of a knockout cup."""
