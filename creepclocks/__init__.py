"""Creepclocks: steps near a fixed place, and the clock that each of them carries."""
