package tight

import (
	"slices"

	"cracknel/api"
)

// parts holds states class by class.
type parts struct {
	states []int    // those of a class side by side
	place  []int    // where each one stands there
	class  []int    // of each state
	bounds []bounds // of each class
	todo   []int    // classes by which the others weren't taken apart yet
}

// bounds are where in a list something begins, and where it ends.
type bounds struct {
	first, end int
}

// classes: states that tell the same, wherever they go to, are of one class. At
// first all are; then they are taken apart, till those of one class go to one
// class by each symbol (after Hopcroft).
func classes(d api.DFA) *parts {
	p := oneClass(len(d.Accept))
	p.takeApart(accepting(d))
	back := backward(d)
	var hit []int
	for len(p.todo) > 0 && len(p.bounds) < len(d.Accept) {
		by := p.next()
		for x := range d.K {
			hit = hit[:0]
			for _, s := range by {
				hit = append(hit, back.come(s, x)...)
			}
			p.takeApart(hit)
		}
	}
	return p
}

// accepting: the states that accept.
func accepting(d api.DFA) []int {
	var states []int
	for s, accepts := range d.Accept {
		if accepts {
			states = append(states, s)
		}
	}
	return states
}

// oneClass: all states in one.
func oneClass(states int) *parts {
	p := &parts{class: make([]int, states), bounds: []bounds{{0, states}}}
	for s := range states {
		p.states = append(p.states, s)
	}
	p.place = slices.Clone(p.states)
	return p
}

// of: the states of a class.
func (p *parts) of(c int) []int {
	return p.states[p.bounds[c].first:p.bounds[c].end]
}

// next: the states of the next class to take others apart by. It may be taken
// apart itself meanwhile: they change places then, but among themselves.
func (p *parts) next() []int {
	last := len(p.todo) - 1
	c := p.todo[last]
	p.todo = p.todo[:last]
	return p.of(c)
}

// takeApart takes each class apart in what of it is among some states, none of
// which stands there twice, and what isn't.
func (p *parts) takeApart(states []int) {
	hits := map[int]int{}
	for _, s := range states {
		c := p.class[s]
		// One state alone can't be taken apart.
		if b := p.bounds[c]; b.end-b.first > 1 {
			p.swap(p.place[s], b.first+hits[c])
			hits[c]++
		}
	}
	// The order of the map shows in the numbers of classes alone, and these get
	// others in the end.
	for c, many := range hits {
		p.cut(c, many)
	}
}

// swap has two states take each other's place.
func (p *parts) swap(i, j int) {
	s, t := p.states[i], p.states[j]
	p.states[i], p.states[j] = t, s
	p.place[s], p.place[t] = j, i
}

// cut makes a new class of as many states at the front of one, or of the rest.
// The smaller one is new, and is all that has to be done still: where the whole
// took others apart already, the rest can't tell more than the two do. So no
// state is gone through but a few times.
func (p *parts) cut(c, many int) {
	whole := p.bounds[c]
	mid := whole.first + many
	if mid == whole.end {
		return
	}
	small, rest := bounds{whole.first, mid}, bounds{mid, whole.end}
	if many > rest.end-rest.first {
		small, rest = rest, small
	}
	made := len(p.bounds)
	p.bounds[c] = rest
	p.bounds = append(p.bounds, small)
	for _, s := range p.of(made) {
		p.class[s] = made
	}
	p.todo = append(p.todo, made)
}

// back tells from which states others are come to: in from they stand in a row
// for each state and symbol, and a row ends where the one behind it begins.
type back struct {
	k           int
	first, from []int
}

// backward: all ways of an automaton, the other way round.
func backward(d api.DFA) back {
	b := back{k: d.K, first: make([]int, len(d.Next)+1), from: make([]int, len(d.Next))}
	for i, to := range d.Next {
		b.first[b.row(to, i%d.K)]++
	}
	sum := 0
	for row, many := range b.first {
		sum += many
		b.first[row] = sum
	}
	// As they are filled from behind, each row's first comes down from its end.
	for i, to := range d.Next {
		row := b.row(to, i%d.K)
		b.first[row]--
		b.from[b.first[row]] = i / d.K
	}
	return b
}

// row: where the states that go to one by a symbol have their row.
func (b back) row(s, x int) int {
	return s*b.k + x
}

// come: the states that go to one by a symbol.
func (b back) come(s, x int) []int {
	row := b.row(s, x)
	return b.from[b.first[row]:b.first[row+1]]
}
