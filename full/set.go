package full

import "steward/program"

// Set is some of the boxes: bit i stands for box i.
type Set uint32

const all Set = 1<<program.Boxes - 1

// Has tells whether a box is in the set.
func (s Set) Has(box int) bool { return s&Only(box) != 0 }

func (s Set) with(box int) Set { return s | Only(box) }

func (s Set) without(box int) Set { return s &^ Only(box) }

// Only is the set of one box.
func Only(box int) Set {
	if box < 0 || box >= program.Boxes {
		return 0
	}
	return 1 << box
}
