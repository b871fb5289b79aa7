"""Poolmarks: the nearest ratings that obey an order."""
