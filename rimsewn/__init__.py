"""What is sure of all bodies to which the rim of a sheet can be sewn."""
