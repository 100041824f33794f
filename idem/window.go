package idem

// size is how many batches a window has at most.
const size = 5

// sent is a batch that a producer has sent.
type sent struct {
	seq  int
	base int
	span int
}

// window is a producer's last batches of one epoch: a ring, in which a new one takes the place of the oldest one.
type window struct {
	ring  [size]sent
	first int
	count int
}

// at is the i-th one, from 0 on, in the order in which they came.
func (w *window) at(i int) sent { return w.ring[(w.first+i)%size] }

// add puts one behind all others; of six the first one goes.
func (w *window) add(s sent) {
	if w.count == size {
		w.first = (w.first + 1) % size
		w.count--
	}
	w.ring[(w.first+w.count)%size] = s
	w.count++
}

// find is the base of the last one that has these numbers.
func (w *window) find(seq int, span int) (int, bool) {
	for i := w.count - 1; i >= 0; i-- {
		if s := w.at(i); s.seq == seq && s.span == span {
			return s.base, true
		}
	}
	return 0, false
}

// next is the number of the batch that is to come.
func (w *window) next() int {
	if w.count == 0 {
		return 0
	}
	last := w.at(w.count - 1)
	return last.seq + last.span
}
