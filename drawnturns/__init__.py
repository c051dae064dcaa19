"""Drawnturns: games in which it is drawn who moves next."""
