"""Systems and policies for caches, lists, servers, devices and files."""
