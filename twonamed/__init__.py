"""Demands that name two things at a time, and worlds in which they hold."""
