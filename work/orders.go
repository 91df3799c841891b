package work

import "sheets/cells"

// alongChain takes the cells along the chain. What a cell waits for is moved ahead of it, so that the next Work finds it
// there: then the chain is as it must be, as far as the formulas read the same cells.
func (r *round) alongChain(chain *[cells.Total]int) {
	for at := 0; at < len(chain); {
		cell := chain[at]
		needed, there := r.turn(cell)
		if there {
			at++
			continue
		}
		r.leave(cell)
		moveTo(at, needed, chain)
	}
}

// moveTo moves a cell that stands at a place of the chain or behind it to that place.
func moveTo(place, cell int, chain *[cells.Total]int) {
	from := place
	for chain[from] != cell {
		from++
	}
	copy(chain[place+1:from+1], chain[place:from])
	chain[place] = cell
}

// restart takes the cells from a queue. One that must wait goes to the end of it, and is not begun again before that for
// which it waits is there: so what it misses is another cell each time that it is begun.
func (r *round) restart() {
	var queue []int
	for cell := range cells.Total {
		queue = append(queue, cell)
	}
	for len(queue) > 0 {
		cell := queue[0]
		queue = queue[1:]
		if r.waitsStill(cell) {
			queue = append(queue, cell)
			continue
		}
		if _, there := r.turn(cell); !there {
			r.leave(cell)
			queue = append(queue, cell)
		}
	}
}

func (r *round) waitsStill(cell int) bool {
	other := r.tasks[cell].waits
	return other != nobody && r.tasks[other].state != settled
}

// suspend takes the cells in their order. One that must wait stays on the stack as it is, below that for which it waits.
func (r *round) suspend() {
	for cell := range cells.Total {
		stack := []int{cell}
		for len(stack) > 0 {
			needed, there := r.turn(stack[len(stack)-1])
			if there {
				stack = stack[:len(stack)-1]
				continue
			}
			stack = append(stack, needed)
		}
	}
}
