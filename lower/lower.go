// Package lower: puts the sentences into a program that end its blocks.
package lower

import (
	"steward/full"
	"steward/program"
)

// writer holds what is written so far of the new text.
type writer struct {
	text []byte
}

// Text puts the ends of the blocks into a text, by what program.Read and full.Find told of it (P10). Each part has a place of its own, so that a look at each place meets them all.
//
// It need not look at the length: a place where more than one block may end is the text's end, or one of two that cost four bytes or more (@a{}). So MaxText bytes have 201 of these at most, with 78 bytes each, which is far below MaxLow.
func Text(text string, parts []program.Part, around []full.Around) string {
	w := writer{}
	next := 0
	for place := 0; place < len(text); place++ {
		if next < len(parts) && next < len(around) && parts[next].Place == place {
			w.ends(surplus(parts, around, next))
			next++
		}
		w.text = append(w.text, text[place])
	}
	w.ends(atEnd(around))
	return string(w.text)
}

// ends writes ~V; for each box of a set.
func (w *writer) ends(boxes full.Set) {
	for box := 0; box < program.Boxes; box++ {
		if boxes.Has(box) {
			w.text = append(w.text, '~', byte('A'+box), ';')
		}
	}
}

// surplus tells which boxes' blocks must end ahead of a part: the one that the part would lose, or those that are not full behind it because another way leads there on which they are empty.
func surplus(parts []program.Part, around []full.Around, i int) full.Set {
	part := parts[i]
	ahead := around[i].Ahead
	if part.Gets() {
		return ahead & full.Only(part.Box)
	}
	switch part.Kind {
	case program.Middle:
		// Behind a Middle the second S begins; the first S goes on behind the Join.
		return ahead &^ around[part.Closer].Behind
	case program.Join, program.Loop, program.Again:
		return ahead &^ around[i].Behind
	}
	return 0
}

// atEnd tells which boxes are full at the end of the text.
func atEnd(around []full.Around) full.Set {
	if len(around) == 0 {
		return 0
	}
	return around[len(around)-1].Behind
}
