"""What hands that wait for nobody can know of all cells."""
