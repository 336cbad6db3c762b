"""Six pins, one surface of third degree, and all straight lines on it."""
