package asn_test

import (
	"math"
	"math/big"
	"math/rand"
	"slices"
	"testing"

	"lanyard/api"
	"lanyard/asn"
)

const most = math.MaxUint32

func r(lo, hi uint32) api.Range {
	return api.Range{Lo: lo, Hi: hi}
}

// empty are ranges without numbers, most of which would have some if one thing about them were overlooked.
func empty() []api.Range {
	return []api.Range{
		r(1, 0), r(20, 19), r(most, 0), r(most, 1), r(most, most-1), r(most-1, 0), r(1<<31, 1<<31-1), r(1<<31, 0),
		r(256, 255), r(65536, 65535), r(1<<24, 1<<24-1), r(10, 1), r(9, 0),
	}
}

func same(t *testing.T, what string, got, want []api.Range) {
	t.Helper()
	if !slices.Equal(got, want) {
		t.Fatalf("%s: %v, not %v", what, got, want)
	}
}

// has follows the definition of the numbers of a list.
func has(l []api.Range, n uint32) bool {
	for _, r := range l {
		if r.Lo <= n && n <= r.Hi {
			return true
		}
	}
	return false
}

// normalized follows the promise about a Join: each range has numbers, and between any two of them there is one that is missing.
func normalized(l []api.Range) bool {
	for i, r := range l {
		if r.Lo > r.Hi {
			return false
		}
		if i > 0 && int64(r.Lo) <= int64(l[i-1].Hi)+1 {
			return false
		}
	}
	return true
}

// A window is some numbers in a row. A set of them is a number whose bit i tells whether the i-th one is in it.
type window struct {
	from uint32
	many int
}

func (w window) between(lo, hi int) api.Range {
	return r(w.from+uint32(lo), w.from+uint32(hi))
}

// every returns all ranges of the window's numbers, and all that have the two ends of such a range the other way round.
func (w window) every() []api.Range {
	var l []api.Range
	for lo := range w.many {
		for hi := range w.many {
			l = append(l, w.between(lo, hi))
		}
	}
	return l
}

func (w window) set(l []api.Range) uint64 {
	var set uint64
	for i := range w.many {
		if has(l, w.from+uint32(i)) {
			set |= 1 << i
		}
	}
	return set
}

// list returns the Join of a set: the runs of bits that are 1.
func (w window) list(set uint64) []api.Range {
	var l []api.Range
	for i := 0; i < w.many; i++ {
		start := i
		for i < w.many && set>>i&1 == 1 {
			i++
		}
		if i > start {
			l = append(l, w.between(start, i-1))
		}
	}
	return l
}

// single returns a range for each number of a set, the greatest one first.
func (w window) single(set uint64) []api.Range {
	var l []api.Range
	for i := w.many - 1; i >= 0; i-- {
		if set>>i&1 == 1 {
			l = append(l, w.between(i, i))
		}
	}
	return l
}

func bitsIn(set uint64) uint64 {
	var many uint64
	for ; set > 0; set >>= 1 {
		many += set & 1
	}
	return many
}

// windows stand at both ends of the numbers, and where several bits change from one number to the next one.
func windows(many int) []window {
	l := []window{{0, many}, {1, many}, {uint32(most - many + 1), many}, {uint32(most - many), many}}
	for _, carry := range []int{8, 16, 24, 31} {
		l = append(l, window{uint32(1)<<carry - uint32(many/2), many})
	}
	return l
}

// corners are numbers at both ends, beside one another, and next to powers of 2.
func corners() []uint32 {
	return []uint32{0, 1, 2, 3, 65534, 65535, 65536, 65537, 1<<31 - 1, 1 << 31, 1<<31 + 1, most - 3, most - 2, most - 1, most}
}

// beside are the numbers where lists of these ranges may change: their ends, and those next to them. Lists of such ranges that have the same ones of them have the same numbers.
func beside(lists ...[]api.Range) []uint32 {
	l := []uint32{0, most}
	for _, r := range slices.Concat(lists...) {
		for _, n := range []uint32{r.Lo, r.Hi} {
			l = append(l, n-1, n, n+1) // round the ends as well
		}
	}
	return l
}

func randomNumber(random *rand.Rand) uint32 {
	switch n := random.Uint32(); random.Intn(4) {
	case 0:
		return n >> random.Intn(32) // often small
	case 1:
		return ^(n >> random.Intn(32)) // often great
	case 2:
		return corners()[random.Intn(len(corners()))]
	default:
		return n
	}
}

// randomLists are the same ones in every run. Their ranges often touch or overlap, and some have no numbers.
func randomLists(many int) [][]api.Range {
	random := rand.New(rand.NewSource(12))
	var lists [][]api.Range
	for range many {
		var l []api.Range
		for range random.Intn(8) {
			one := r(randomNumber(random), randomNumber(random))
			if one.Lo > one.Hi && random.Intn(4) > 0 {
				one = r(one.Hi, one.Lo)
			}
			if len(l) > 0 && random.Intn(2) == 0 { // from the end of another one, or up to two numbers before or behind it
				one.Lo = l[random.Intn(len(l))].Hi + uint32(random.Intn(5)) - 2
			}
			l = append(l, one)
		}
		lists = append(lists, l)
	}
	return lists
}

// P12.1

func TestJoin(t *testing.T) {
	all := []api.Range{r(0, most)}
	for _, c := range []struct{ l, want []api.Range }{
		{nil, nil},
		{[]api.Range{}, nil},
		{[]api.Range{r(1, 3), r(4, 9), r(20, 19)}, []api.Range{r(1, 9)}},
		{[]api.Range{r(4, 9), r(1, 3)}, []api.Range{r(1, 9)}},
		{[]api.Range{r(1, 3), r(5, 9)}, []api.Range{r(1, 3), r(5, 9)}},
		{[]api.Range{r(5, 9), r(1, 3)}, []api.Range{r(1, 3), r(5, 9)}},
		{[]api.Range{r(1, 3), r(5, 9), r(4, 4)}, []api.Range{r(1, 9)}},
		{[]api.Range{r(1, 9), r(2, 3)}, []api.Range{r(1, 9)}},
		{[]api.Range{r(1, 9), r(2, 3), r(5, 6), r(10, 10)}, []api.Range{r(1, 10)}},
		{[]api.Range{r(1, 5), r(3, 9)}, []api.Range{r(1, 9)}},
		{[]api.Range{r(1, 5), r(5, 9)}, []api.Range{r(1, 9)}},
		{[]api.Range{r(1, 5), r(1, 5)}, []api.Range{r(1, 5)}},
		{[]api.Range{r(1, 5), r(1, 3), r(1, 9)}, []api.Range{r(1, 9)}},
		{[]api.Range{r(7, 7)}, []api.Range{r(7, 7)}},
		{[]api.Range{r(0, 0)}, []api.Range{r(0, 0)}},
		{[]api.Range{{}}, []api.Range{{}}},
		{[]api.Range{r(most, most)}, []api.Range{r(most, most)}},
		{[]api.Range{r(0, most)}, all},
		{[]api.Range{r(1, most), r(0, 0)}, all},
		{[]api.Range{r(0, most-1), r(most, most)}, all},
		{[]api.Range{r(0, 1<<31-1), r(1<<31, most)}, all},
		{[]api.Range{r(0, most), r(0, 0), r(most, most), r(5, 6)}, all},
		{[]api.Range{r(most, most), r(0, 0)}, []api.Range{r(0, 0), r(most, most)}},
		{[]api.Range{r(9, most), r(0, 7)}, []api.Range{r(0, 7), r(9, most)}},
		{[]api.Range{r(9, most), r(10, most), r(most, most), r(0, 6)}, []api.Range{r(0, 6), r(9, most)}},
		{[]api.Range{r(10, 20), r(100, 200), r(1, 2)}, []api.Range{r(1, 2), r(10, 20), r(100, 200)}},
		{[]api.Range{r(20, 19)}, nil},
		{[]api.Range{r(1, 3), r(5, 4), r(5, 9)}, []api.Range{r(1, 3), r(5, 9)}},
		{[]api.Range{r(most, 0), r(5, 9)}, []api.Range{r(5, 9)}},
		{empty(), nil},
		{append(empty(), r(3, 4)), []api.Range{r(3, 4)}},
		{append([]api.Range{r(0, 0), r(most, most)}, empty()...), []api.Range{r(0, 0), r(most, most)}},
	} {
		same(t, "Join", asn.Join(c.l...), c.want)
	}
}

func TestJoinOfArguments(t *testing.T) {
	same(t, "Join of nothing", asn.Join(), nil)
	same(t, "Join of one", asn.Join(r(7, 9)), []api.Range{r(7, 9)})
	same(t, "Join of three", asn.Join(r(7, 9), r(20, 30), r(4, 6)), []api.Range{r(4, 9), r(20, 30)})
	same(t, "Join of the example", asn.Join(r(1, 3), r(4, 9), r(20, 19)), []api.Range{r(1, 9)})
}

func TestJoinInWindows(t *testing.T) {
	for _, w := range windows(5) {
		l := w.every()
		for _, a := range l {
			for _, b := range l {
				for _, c := range l {
					list := []api.Range{a, b, c}
					same(t, "Join", asn.Join(list...), w.list(w.set(list)))
				}
			}
		}
	}
}

func TestJoinOfSets(t *testing.T) {
	for _, w := range windows(12) {
		for set := range uint64(1) << w.many {
			want := w.list(set)
			same(t, "Join of numbers", asn.Join(w.single(set)...), want)
			same(t, "Join of a Join", asn.Join(want...), want)
		}
	}
}

func TestJoinAtCorners(t *testing.T) {
	var l []api.Range
	for _, lo := range corners() {
		for _, hi := range corners() {
			l = append(l, r(lo, hi))
		}
	}
	for _, a := range l {
		for _, b := range l {
			list := []api.Range{a, b}
			joined := asn.Join(list...)
			if !normalized(joined) {
				t.Fatal(list, joined)
			}
			for _, n := range beside(list) {
				if has(joined, n) != has(list, n) {
					t.Fatal(list, joined, n)
				}
			}
		}
	}
}

func TestJoinOfRandomLists(t *testing.T) {
	random := rand.New(rand.NewSource(1))
	for _, l := range randomLists(5000) {
		joined := asn.Join(l...)
		if !normalized(joined) {
			t.Fatal(l, joined)
		}
		for _, n := range beside(l, joined) {
			if has(l, n) != has(joined, n) {
				t.Fatal(l, joined, n)
			}
		}
		mixed := slices.Concat(l, l, empty())
		random.Shuffle(len(mixed), func(i, j int) { mixed[i], mixed[j] = mixed[j], mixed[i] })
		same(t, "Join in another order", asn.Join(mixed...), joined)
	}
}

func TestManyRanges(t *testing.T) {
	var apart, parts []api.Range
	for i := range uint32(100000) {
		apart = append(apart, r(3*i, 3*i+1))
		parts = append(parts, r(3*i, 3*i+2))
	}
	random := rand.New(rand.NewSource(2))
	mixed := slices.Clone(apart)
	random.Shuffle(len(mixed), func(i, j int) { mixed[i], mixed[j] = mixed[j], mixed[i] })
	random.Shuffle(len(parts), func(i, j int) { parts[i], parts[j] = parts[j], parts[i] })
	same(t, "Join", asn.Join(mixed...), apart)
	same(t, "Join", asn.Join(parts...), []api.Range{r(0, 299999)})
	same(t, "Join", asn.Join(slices.Concat(mixed, parts)...), []api.Range{r(0, 299999)})
	if !asn.Within(mixed, parts) || asn.Within(parts, mixed) || !asn.Within(mixed, apart) || asn.Within(apart, mixed[1:]) {
		t.Error("Within")
	}
	if asn.Many(mixed) != 200000 || asn.Many(parts) != 300000 {
		t.Error("Many", asn.Many(mixed), asn.Many(parts))
	}
}

// P12.2

func TestWithin(t *testing.T) {
	whole := []api.Range{r(10, 20)}
	halves := []api.Range{r(15, 20), r(10, 14)}
	gap := []api.Range{r(10, 14), r(16, 20)}
	for _, c := range []struct {
		a, b []api.Range
		want bool
	}{
		{nil, nil, true},
		{nil, whole, true},
		{[]api.Range{}, whole, true},
		{whole, nil, false},
		{whole, []api.Range{}, false},
		{whole, whole, true},
		{whole, halves, true},
		{halves, whole, true},
		{whole, gap, false},
		{gap, whole, true},
		{gap, halves, true},
		{gap, gap, true},
		{[]api.Range{r(16, 20), r(10, 14)}, gap, true},
		{gap, []api.Range{r(10, 14)}, false},
		{gap, []api.Range{r(16, 20)}, false},
		{[]api.Range{r(10, 10)}, whole, true},
		{[]api.Range{r(20, 20)}, whole, true},
		{[]api.Range{r(9, 9)}, whole, false},
		{[]api.Range{r(21, 21)}, whole, false},
		{[]api.Range{r(9, 10)}, whole, false},
		{[]api.Range{r(20, 21)}, whole, false},
		{[]api.Range{r(15, 15)}, gap, false},
		{[]api.Range{r(11, 12), r(17, 18)}, gap, true},
		{[]api.Range{r(11, 12), r(13, 14), r(17, 18), r(19, 20)}, gap, true},
		{[]api.Range{r(11, 12), r(15, 15), r(17, 18)}, gap, false},
		{[]api.Range{r(17, 18)}, []api.Range{r(1, 1), r(3, 3), r(10, 14), r(16, 20)}, true},
		{[]api.Range{r(0, most)}, []api.Range{r(1, most), r(0, 0)}, true},
		{[]api.Range{r(0, most)}, []api.Range{r(1, most)}, false},
		{[]api.Range{r(0, most)}, []api.Range{r(0, most-1)}, false},
		{[]api.Range{r(0, most)}, []api.Range{r(most, 0)}, false},
		{[]api.Range{r(0, 0)}, []api.Range{r(most, most)}, false},
		{[]api.Range{r(most, most)}, []api.Range{r(0, 0)}, false},
		{[]api.Range{r(most, most), r(0, 0)}, []api.Range{r(0, most)}, true},
		{[]api.Range{{}}, nil, false},
		{empty(), nil, true},
		{empty(), empty(), true},
		{empty(), whole, true},
		{append(empty(), whole...), empty(), false},
		{append(empty(), whole...), append(empty(), halves...), true},
	} {
		if asn.Within(c.a, c.b) != c.want {
			t.Error(c)
		}
	}
}

func TestWithinInWindows(t *testing.T) {
	for _, w := range windows(7) {
		sets := uint64(1) << w.many
		for a := range sets {
			for b := range sets {
				x, y := w.list(a), w.single(b)
				slices.Reverse(x)
				if asn.Within(x, y) != (a&^b == 0) {
					t.Fatal(x, y)
				}
			}
		}
	}
}

func TestWithinOfOverlappingRanges(t *testing.T) {
	for _, w := range windows(4) {
		l := w.every()
		for _, a := range l {
			for _, b := range l {
				for _, c := range l {
					for _, d := range l {
						x, y := []api.Range{a, b}, []api.Range{c, d}
						if asn.Within(x, y) != (w.set(x)&^w.set(y) == 0) {
							t.Fatal(x, y)
						}
					}
				}
			}
		}
	}
}

func TestWithinOfRandomLists(t *testing.T) {
	lists := randomLists(5000)
	for i, a := range lists {
		b := lists[(i+1)%len(lists)]
		if i%3 == 0 {
			b = slices.Concat(b, a) // so a is within it
		}
		want := true
		for _, n := range beside(a, b) {
			want = want && (has(b, n) || !has(a, n))
		}
		if asn.Within(a, b) != want {
			t.Fatal(a, b, want)
		}
	}
}

func TestHas(t *testing.T) {
	l := []api.Range{r(20, 30), r(1, 3), r(25, 40), r(most-1, most), r(50, 49)}
	for n, want := range map[uint32]bool{
		0: false, 1: true, 2: true, 3: true, 4: false, 19: false, 20: true, 24: true, 25: true, 30: true, 31: true, 40: true, 41: false,
		49: false, 50: false, 256 + 1: false, 65536 + 2: false, 1 << 31: false, most - 2: false, most - 1: true, most: true,
	} {
		if asn.Has(l, n) != want {
			t.Error(n, want)
		}
	}
	for _, n := range append(corners(), 9, 10, 19, 20, 255, 256) {
		if asn.Has(nil, n) || asn.Has([]api.Range{}, n) || asn.Has(empty(), n) {
			t.Error("a list without numbers has", n)
		}
		if !asn.Has([]api.Range{r(0, most)}, n) || !asn.Has(append(empty(), r(n, n)), n) {
			t.Error("missing", n)
		}
		if asn.Has([]api.Range{{}}, n) != (n == 0) || asn.Has([]api.Range{r(most, most)}, n) != (n == most) {
			t.Error("the range of one number", n)
		}
	}
}

func TestHasInWindows(t *testing.T) {
	for _, w := range windows(12) {
		for set := range uint64(1) << w.many {
			x, y := w.list(set), w.single(set)
			slices.Reverse(x)
			for i := range w.many {
				n, want := w.from+uint32(i), set>>i&1 == 1
				if asn.Has(x, n) != want || asn.Has(y, n) != want {
					t.Fatal(x, n, want)
				}
			}
		}
	}
}

func TestHasOfRandomLists(t *testing.T) {
	for _, l := range randomLists(5000) {
		for _, n := range append(beside(l), corners()...) {
			if asn.Has(l, n) != has(l, n) {
				t.Fatal(l, n)
			}
		}
	}
}

func TestMany(t *testing.T) {
	for _, c := range []struct {
		l    []api.Range
		want uint64
	}{
		{nil, 0},
		{[]api.Range{}, 0},
		{[]api.Range{r(1, 3), r(4, 9), r(20, 19)}, 9},
		{[]api.Range{{}}, 1},
		{[]api.Range{r(7, 7)}, 1},
		{[]api.Range{r(most, most)}, 1},
		{[]api.Range{r(0, most)}, 1 << 32},
		{[]api.Range{r(1, most)}, most},
		{[]api.Range{r(0, most-1)}, most},
		{[]api.Range{r(0, 0), r(1, most)}, 1 << 32},
		{[]api.Range{r(0, most), r(0, most)}, 1 << 32},
		{[]api.Range{r(0, most), r(5, 9), r(most, most)}, 1 << 32},
		{[]api.Range{r(0, 1<<31), r(1<<31, most)}, 1 << 32},
		{[]api.Range{r(0, 1<<31-1), r(1<<31+1, most)}, 1<<32 - 1},
		{[]api.Range{r(1, 5), r(1, 5), r(3, 7)}, 7},
		{[]api.Range{r(1, 9), r(2, 3), r(11, 12)}, 11},
		{[]api.Range{r(most, 0)}, 0},
		{empty(), 0},
		{append(empty(), r(1, 5)), 5},
	} {
		if got := asn.Many(c.l); got != c.want {
			t.Error(c.l, got, c.want)
		}
	}
}

func TestManyInWindows(t *testing.T) {
	for _, w := range windows(12) {
		for set := range uint64(1) << w.many {
			list, want := slices.Concat(w.list(set), w.single(set)), bitsIn(set)
			if got := asn.Many(list); got != want {
				t.Fatal(list, got, want)
			}
		}
	}
	for _, w := range windows(4) {
		l := w.every()
		for _, a := range l {
			for _, b := range l {
				for _, c := range l {
					list := []api.Range{a, b, c}
					if got, want := asn.Many(list), bitsIn(w.set(list)); got != want {
						t.Fatal(list, got, want)
					}
				}
			}
		}
	}
}

// wantMany counts the numbers between each two places where the list may change.
func wantMany(l []api.Range) uint64 {
	starts := []int64{0, most + 1}
	for _, r := range l {
		starts = append(starts, int64(r.Lo), int64(r.Hi)+1)
	}
	slices.Sort(starts)
	sum := new(big.Int)
	for i, start := range starts[:len(starts)-1] {
		if start <= most && has(l, uint32(start)) {
			sum.Add(sum, big.NewInt(starts[i+1]-start))
		}
	}
	return sum.Uint64()
}

func TestManyOfRandomLists(t *testing.T) {
	for _, l := range randomLists(5000) {
		if got, want := asn.Many(l), wantMany(l); got != want {
			t.Fatal(l, got, want)
		}
	}
}

// P12.3

func TestJoinIsIdempotentAndPreservesNumbers(t *testing.T) {
	for _, l := range append(randomLists(5000), nil, empty(), []api.Range{r(0, most)}) {
		joined := asn.Join(l...)
		same(t, "Join of the Join", asn.Join(joined...), joined)
		if !asn.Within(l, joined) || !asn.Within(joined, l) || asn.Many(l) != asn.Many(joined) {
			t.Fatal(l, joined)
		}
		for _, n := range beside(l) {
			if asn.Has(l, n) != asn.Has(joined, n) {
				t.Fatal(l, joined, n)
			}
		}
	}
}

func TestWithinIsTransitive(t *testing.T) {
	for _, w := range windows(4) {
		sets := uint64(1) << w.many
		for a := range sets {
			for b := range sets {
				for c := range sets {
					x, y, z := w.list(a), w.single(b), w.list(c)
					if asn.Within(x, y) && asn.Within(y, z) && !asn.Within(x, z) {
						t.Fatal(x, y, z)
					}
				}
			}
		}
	}
}

func TestWithinInBothDirections(t *testing.T) {
	lists := randomLists(300)
	for i := range 100 { // the same numbers, as other ranges
		lists = append(lists, slices.Concat(empty(), lists[i], asn.Join(lists[i]...)))
	}
	for _, a := range lists {
		for _, b := range lists {
			equal := slices.Equal(asn.Join(a...), asn.Join(b...))
			if (asn.Within(a, b) && asn.Within(b, a)) != equal {
				t.Fatal(a, b, equal)
			}
		}
	}
}

// R3 and R4

// wipe changes all of a list's memory, also what is behind its last element.
func wipe(l []api.Range) {
	l = l[:cap(l)]
	for i := range l {
		l[i] = r(123, 456)
	}
}

func TestArgumentsStayAndResultsAreNew(t *testing.T) {
	mark := r(9, 99)
	lists := append(randomLists(500), []api.Range{r(5, 9), r(1, 3), r(4, 4)}, []api.Range{r(30, 20), r(5, 9), r(1, 3), r(7, 6)})
	for i, a := range lists {
		b := lists[(i+3)%len(lists)]
		if i%2 == 0 {
			a, b = asn.Join(a...), asn.Join(b...)
		}
		a, b = slices.Grow(slices.Clone(a), 4), slices.Grow(slices.Clone(b), 4)
		behindA, behindB := &a[:cap(a)][len(a)], &b[:cap(b)][len(b)]
		*behindA, *behindB = mark, mark
		keptA, keptB := slices.Clone(a), slices.Clone(b)
		joined, within, many := asn.Join(a...), asn.Within(a, b), asn.Many(a)
		kept := slices.Clone(joined)
		at := randomNumber(rand.New(rand.NewSource(int64(i))))
		is := asn.Has(a, at)
		other := asn.Join(a...)
		wipe(joined)
		same(t, "another result", other, kept)
		same(t, "a", a, keptA)
		same(t, "b", b, keptB)
		if *behindA != mark || *behindB != mark {
			t.Fatal("memory behind an argument was changed")
		}
		same(t, "Join again", asn.Join(a...), kept)
		if asn.Within(a, b) != within || asn.Many(a) != many || asn.Has(a, at) != is {
			t.Fatal(a, b)
		}
		wipe(a)
		same(t, "a result whose argument was changed", other, kept)
	}
}
