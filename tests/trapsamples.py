"""Stories with traps, for what is told of stands from which no ending is come to."""

from tests.locksamples import way
from tests.samples import stand

# b is stuck; c and d are a ring without an ending; e ends; f has a choice that is never met.
RING = way("a x>b y>c z>e w>f", "b !x>e", "c x>d", "d x>c", "e =end x>a", "f x>a !y>c")
RING_STANDS = {name: stand(scene=name) for name in "abcdef"}

# From a all ways lead to an ending.
FREE = way("a x>b y>c", "b x>a", "c x>d", "d =end")
