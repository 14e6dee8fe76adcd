package machine

// Trim answers the code without the instructions that cannot be reached. The last one that is left is an end or goes on elsewhere, since behind every other one the next is reached too: so what is left is code.
func (c Code) Trim() Code {
	w := walker{list: c.list, reached: make([]bool, len(c.list))}
	w.walk()
	places := newPlaces(w.reached)
	var list []instruction
	for n, i := range c.list {
		if !w.reached[n] {
			continue
		}
		if i.saysWhere() {
			i.k = places[i.k]
		}
		list = append(list, i)
	}
	return Code{list: list}
}

// newPlaces answers for every instruction how many ahead of it are reached.
func newPlaces(reached []bool) []int {
	var places []int
	count := 0
	for _, r := range reached {
		places = append(places, count)
		if r {
			count++
		}
	}
	return places
}

// A walker finds what can be reached. Each instruction comes into the queue at most once, so the walk ends.
type walker struct {
	list    []instruction
	reached []bool
	queue   []int
}

func (w *walker) walk() {
	w.reach(0)
	for n := 0; n < len(w.queue); n++ {
		from := w.queue[n]
		i := w.list[from]
		if i.saysWhere() {
			w.reach(i.k)
		}
		if i.nextFollows() {
			w.reach(from + 1)
		}
	}
}

func (w *walker) reach(n int) {
	if n < 0 || n >= len(w.reached) || w.reached[n] {
		return
	}
	w.reached[n] = true
	w.queue = append(w.queue, n)
}
