"""Faremachines: what the cheapest way through a machine costs."""
