"""Systems: states, switching costs and requests."""
