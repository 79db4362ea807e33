"""A service that runs policies on requests as they arrive."""
