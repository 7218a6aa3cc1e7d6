"""Orderkeep: an order that keeps its ties."""
