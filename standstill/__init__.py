"""Standstill: worlds that rest on nothing but themselves."""
