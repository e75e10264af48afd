"""Evenyoke: chores dealt among hands so that nobody bears more than need be."""
