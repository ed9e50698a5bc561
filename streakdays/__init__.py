"""Streakdays: days kept, told by words of several devices, and the streaks that they make."""
