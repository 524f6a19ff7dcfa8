"""What pictures in perspective show for all eyes that fit."""
