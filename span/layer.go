package span

import (
	"iter"
	"maps"
	"slices"
	"sort"

	"virama/api"
)

// layer is a map, which can lie over other ones.
type layer struct {
	chart
}

// layerOf takes ranges of which a layer can be made.
func layerOf(l ...api.Range) (layer, error) {
	y := layer{chartOf(l...)}
	if !y.isMap() {
		return layer{}, fault{number: api.ErrRange}
	}
	return y, nil
}

// reach tells the place of the first range that ends at r or behind it.
func (y layer) reach(r int) int {
	return sort.Search(len(y.list), func(i int) bool { return r <= y.list[i].To })
}

// says tells what is said of r. No range but the first that reaches r can have it.
func (y layer) says(r int) (int, bool) {
	at := y.reach(r)
	if at == len(y.list) || r < y.list[at].From {
		return 0, false
	}
	return y.list[at].Value, true
}

// put puts a range at its place, unless something is said already of a number that it has.
func (y *layer) put(x api.Range) bool {
	at := y.reach(x.From)
	if at < len(y.list) && y.list[at].From <= x.To {
		return false
	}
	y.list = slices.Insert(y.list, at, x)
	return true
}

// laid says of a number what the topmost layer says that says something; the last one is the topmost.
func laid(layers ...layer) func(r int) (int, bool) {
	return func(r int) (int, bool) {
		for _, y := range slices.Backward(layers) {
			if value, ok := y.says(r); ok {
				return value, true
			}
		}
		return 0, false
	}
}

// turns tells at which numbers another thing may be said than of the number ahead.
func turns(layers ...layer) map[int]bool {
	m := map[int]bool{}
	for _, y := range layers {
		for _, x := range y.ranges() {
			m[x.From] = true
			m[x.To+1] = true
		}
	}
	return m
}

// stretches goes through the first and the last numbers of what is between turns.
func stretches(turns map[int]bool) iter.Seq2[int, int] {
	return func(yield func(int, int) bool) {
		places := slices.Sorted(maps.Keys(turns))
		for i := 1; i < len(places); i++ {
			if !yield(places[i-1], places[i]-1) {
				return
			}
		}
	}
}

// join puts a range behind a tight map, so that it stays tight.
func join(l []api.Range, x api.Range) []api.Range {
	if n := len(l); n > 0 && l[n-1].To+1 == x.From && l[n-1].Value == x.Value {
		l[n-1].To = x.To
		return l
	}
	return append(l, x)
}

// lay tells the tight map of maps of which each lies over those ahead of it.
func lay(lists ...[]api.Range) ([]api.Range, error) {
	var layers []layer
	var said func(int) (int, bool)
	var m []api.Range
	var err error
	for _, l := range lists {
		var y layer
		if y, err = layerOf(l...); err != nil {
			goto none
		}
		layers = append(layers, y)
	}
	said = laid(layers...)
	for from, to := range stretches(turns(layers...)) {
		if value, ok := said(from); ok {
			m = join(m, api.Range{From: from, To: to, Value: value})
		}
	}
	if len(m) > mostRanges {
		err = fault{number: api.ErrRange}
		goto none
	}
	return m[:len(m):len(m)], nil
none:
	return nil, err
}
