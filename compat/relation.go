package compat

// pair is an operation of the older program, and one of the newer one.
type pair struct{ old, new int }

// relation is the pairs that are in it.
type relation map[pair]struct{}

// has tells whether a pair is in it.
func (r relation) has(p pair) bool {
	_, is := r[p]
	return is
}

// greatest is the greatest relation of such pairs as hold by what they are told of which others are in it. All are in it at first, and
// one that does not hold is taken out. Only what leant on that is asked anew, as what tells two programs apart may lie so far off that
// asking all pairs in rounds would take as many rounds as there are pairs.
func greatest(pairs []pair, holds func(p pair, isIn func(pair) bool) bool) relation {
	in := relation{}
	for _, p := range pairs {
		in[p] = struct{}{}
	}
	leaning := map[pair][]pair{} // of each pair those that were told that it is in
	for open := pairs; len(open) > 0; {
		p := open[0]
		open = open[1:]
		isIn := func(other pair) bool {
			if !in.has(other) {
				return false
			}
			leaning[other] = append(leaning[other], p)
			return true
		}
		if in.has(p) && !holds(p, isIn) {
			delete(in, p)
			open = append(open, leaning[p]...)
		}
	}
	return in
}
