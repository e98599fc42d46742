package fuzzy

import "slices"

// pairing is a greatest pairing that is made the first one step by step: left has the partner of each i,
// right that of each j (-1: none), and final are the j that stay with their partners.
type pairing struct {
	near        [][]int
	left, right []int
	final       []bool
}

// newPairing returns a greatest pairing.
func newPairing(near [][]int, values int) *pairing {
	p := &pairing{
		near:  near,
		left:  slices.Repeat([]int{-1}, len(near)),
		right: slices.Repeat([]int{-1}, values),
		final: make([]bool, values),
	}
	for i := range near {
		p.extend(i, make([]bool, values))
	}
	return p
}

// extend looks for a way from i, which has no partner, to a j without a partner, and takes it.
func (p *pairing) extend(i int, seen []bool) bool {
	for _, j := range p.near[i] {
		if seen[j] || p.final[j] {
			continue
		}
		seen[j] = true
		if p.right[j] < 0 || p.extend(p.right[j], seen) {
			p.join(i, j)
			return true
		}
	}
	return false
}

func (p *pairing) join(i, j int) { p.left[i], p.right[j] = j, i }

// first goes through the i in order, and gives each one the least j with which the pairing stays greatest.
func (p *pairing) first() [][2]int {
	var pairs [][2]int
	for i, places := range p.near {
		for _, j := range places {
			if !p.final[j] && p.prefer(i, j) {
				p.final[j] = true
				pairs = append(pairs, [2]int{i, j})
				break
			}
		}
	}
	return pairs
}

// prefer makes j the partner of i, if there is a greatest pairing with this; all before i are done.
func (p *pairing) prefer(i, j int) bool {
	old, rival := p.left[i], p.right[j]
	if old == j {
		return true
	}
	p.join(i, j)
	if old >= 0 {
		p.right[old] = -1
	}
	if rival >= 0 {
		p.left[rival] = -1
	}
	// Only if both had other partners, there is one pair less now.
	if old < 0 || rival < 0 || p.again(i, j) {
		return true
	}
	p.join(i, old)
	p.join(rival, j)
	return false
}

// again looks for one more pair behind i, without j.
func (p *pairing) again(i, j int) bool {
	seen := make([]bool, len(p.right))
	seen[j] = true
	for next := i + 1; next < len(p.left); next++ {
		if p.left[next] < 0 && p.extend(next, seen) {
			return true
		}
	}
	return false
}
