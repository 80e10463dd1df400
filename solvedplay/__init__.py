"""Solvedplay: games of two solved whole."""
