"""Work functions and their forms."""
