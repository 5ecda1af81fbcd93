"""Firms, desks and orders: what may yet be owed in an electricity market."""
