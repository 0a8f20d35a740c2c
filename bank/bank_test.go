package bank

import (
	"math"
	"math/big"
	"math/rand"
	"slices"
	"sync"
	"testing"

	"psaltery/api"
	"psaltery/wave"
)

// ask is one question to a bank, of one of the three kinds of table.
type ask struct {
	kind string
	n    int
}

func (a ask) of(b *Bank) ([]int16, api.Errno) {
	switch a.kind {
	case "Turn":
		return b.Turn(a.n)
	case "Slope":
		return b.Slope(a.n)
	default:
		return b.Filter(a.n)
	}
}

// goodAsks are all tables that a bank may have.
func goodAsks() []ask {
	var list []ask
	for n := 4; n <= 1024; n += 4 {
		list = append(list, ask{"Turn", n})
	}
	for n := 1; n <= 128; n++ {
		list = append(list, ask{"Slope", n})
	}
	return append(list, ask{"Filter", 4}, ask{"Filter", 8})
}

// badAsks are tables that can't be, those beside the edges ahead of the others.
func badAsks() []ask {
	ends := []int{0, -1, -2, -4, -8, -128, -1024, math.MinInt, math.MinInt + 1, math.MinInt + 4, math.MaxInt, math.MaxInt - 3, 1 << 32, 1<<32 + 4, 1<<32 + 8, -1<<32 + 4, 1<<63 - 8}
	by := map[string][]int{
		"Turn":   {1, 2, 3, 5, 6, 7, 9, 10, 1018, 1019, 1021, 1022, 1023, 1025, 1026, 1027, 1028, 2048, 4096},
		"Slope":  {129, 130, 132, 256, 1024},
		"Filter": {1, 2, 3, 5, 6, 7, 9, 10, 12, 16, 32, 40, 80},
	}
	var list []ask
	for _, kind := range []string{"Turn", "Slope", "Filter"} {
		for _, n := range append(by[kind], ends...) {
			list = append(list, ask{kind, n})
		}
	}
	return list
}

func plainSine(t *testing.T, num, den int) int64 {
	t.Helper()
	s, e := wave.Sine(num, den)
	if e != api.OK {
		t.Fatalf("Sine(%d, %d): error %d", num, den, e)
	}
	return int64(s)
}

func plainCosine(t *testing.T, num, den int) int64 {
	t.Helper()
	c, e := wave.Cosine(num, den)
	if e != api.OK {
		t.Fatalf("Cosine(%d, %d): error %d", num, den, e)
	}
	return int64(c)
}

// plainQuotient lets the part behind the point fall away, of numbers below 0 as of others.
func plainQuotient(a, b int64) int64 {
	return new(big.Int).Quo(big.NewInt(a), big.NewInt(b)).Int64()
}

// plainRound is the nearest number of 2^15-th parts, halves upwards.
func plainRound(n int64) int64 {
	sum := new(big.Int).Add(big.NewInt(n), big.NewInt(1<<14))
	return new(big.Int).Div(sum, big.NewInt(1<<15)).Int64()
}

// plainTable follows the chapter's words one by one.
func plainTable(t *testing.T, a ask) []int16 {
	t.Helper()
	var list []int16
	switch a.kind {
	case "Turn":
		for i := 0; i < a.n; i++ {
			list = append(list, int16(plainCosine(t, i, a.n)))
		}
	case "Slope":
		for i := 0; i < a.n; i++ {
			list = append(list, int16(plainSine(t, 2*i+1, 8*a.n)))
		}
	case "Filter":
		turn := 10 * a.n
		for i := 0; i < turn; i++ {
			d := i - 5*a.n
			v := int64(32768)
			if d != 0 {
				v = plainQuotient(plainSine(t, 3*d, turn)*int64(565*a.n), int64(1065*d))
			}
			w := plainQuotient(1376256-50*plainCosine(t, i, turn)+8*plainCosine(t, 2*i, turn), 100)
			list = append(list, int16(plainRound(plainRound(v*w)*19708)))
		}
	}
	return list
}

func checkAsk(t *testing.T, b *Bank, a ask, want []int16) []int16 {
	t.Helper()
	list, e := a.of(b)
	if e != api.OK || !slices.Equal(list, want) {
		t.Fatalf("P4.1: %s(%d): %v, error %d, not %v", a.kind, a.n, list, e, want)
	}
	return list
}

func checkCounts(t *testing.T, b *Bank, made, told int) {
	t.Helper()
	if b.Made() != made || b.Told() != told {
		t.Fatalf("P4.1: Made %d, Told %d, not %d, %d", b.Made(), b.Told(), made, told)
	}
}

func TestExamples(t *testing.T) {
	b := New()
	checkCounts(t, b, 0, 0)
	checkAsk(t, b, ask{"Turn", 4}, []int16{32767, 0, -32767, 0})
	checkCounts(t, b, 1, 1)
	checkAsk(t, b, ask{"Turn", 4}, []int16{32767, 0, -32767, 0})
	checkCounts(t, b, 1, 2)
	checkAsk(t, b, ask{"Slope", 1}, []int16{23170})
	checkCounts(t, b, 2, 3)
	checkAsk(t, b, ask{"Turn", 8}, []int16{32767, 23170, 0, -23170, -32767, -23170, 0, 23170})
	checkAsk(t, b, ask{"Slope", 2}, []int16{12540, 30274})
	checkCounts(t, b, 4, 5)
}

// The filters' numbers stand here as the chapter's words make them, reckoned apart from this program, so that no fault of another layer hides here.
func TestFilterNumbers(t *testing.T) {
	b := New()
	half4 := []int16{0, 2, 17, 52, 100, 131, 93, -73, -411, -900, -1422, -1748, -1566, -561, 1484, 4575, 8444, 12564, 16244, 18794, 19707}
	half8 := []int16{0, 0, 2, 7, 17, 32, 52, 76, 100, 120, 131, 124, 93, 29, -73, -220, -411, -641, -900, -1169, -1422, -1627, -1748, -1741, -1566, -1184, -561, 325, 1484, 2909, 4575, 6440, 8444, 10514, 12564, 14505, 16244, 17699, 18794, 19478, 19707}
	for _, x := range []struct {
		m    int
		half []int16
	}{{4, half4}, {8, half8}} {
		other := slices.Clone(x.half[1 : 5*x.m])
		slices.Reverse(other)
		list := checkAsk(t, b, ask{"Filter", x.m}, slices.Concat(x.half, other))
		if len(list) != 10*x.m || list[5*x.m] != 19707 {
			t.Errorf("P4.1: Filter(%d): %d numbers, the middle %d", x.m, len(list), list[5*x.m])
		}
	}
	checkCounts(t, b, 2, 2)
}

func TestAllTables(t *testing.T) {
	b := New()
	asks := goodAsks()
	for i, a := range asks {
		checkAsk(t, b, a, plainTable(t, a))
		checkCounts(t, b, i+1, i+1)
	}
	for i, a := range asks {
		checkAsk(t, b, a, plainTable(t, a))
		checkCounts(t, b, len(asks), len(asks)+i+1)
	}
}

func TestEdges(t *testing.T) {
	for _, x := range []struct {
		ask
		size        int
		first, last int16
	}{
		{ask{"Turn", 4}, 4, 32767, 0}, {ask{"Turn", 8}, 8, 32767, 23170}, {ask{"Turn", 1020}, 1020, 32767, 32767}, {ask{"Turn", 1024}, 1024, 32767, 32767},
		{ask{"Slope", 1}, 1, 23170, 23170}, {ask{"Slope", 2}, 2, 12540, 30274}, {ask{"Slope", 127}, 127, 203, 32767}, {ask{"Slope", 128}, 128, 201, 32767},
		{ask{"Filter", 4}, 40, 0, 2}, {ask{"Filter", 8}, 80, 0, 0},
	} {
		b := New()
		list, e := x.of(b)
		if e != api.OK || len(list) != x.size || list[0] != x.first || list[x.size-1] != x.last {
			t.Errorf("P4.1: %s(%d): %d numbers, error %d", x.kind, x.n, len(list), e)
		}
		checkCounts(t, b, 1, 1)
	}
}

func TestWrong(t *testing.T) {
	b := New()
	refuse := func() {
		t.Helper()
		made, told := b.Made(), b.Told()
		for _, a := range badAsks() {
			if list, e := a.of(b); e != api.ErrArg || len(list) != 0 {
				t.Errorf("P4.1: %s(%d): %v, error %d, not %d", a.kind, a.n, list, e, api.ErrArg)
			}
			checkCounts(t, b, made, told)
		}
	}
	refuse()
	checkCounts(t, b, 0, 0)
	asks := goodAsks()
	for _, a := range asks {
		checkAsk(t, b, a, plainTable(t, a))
	}
	refuse()
	checkCounts(t, b, len(asks), len(asks))
	for _, a := range asks {
		checkAsk(t, b, a, plainTable(t, a))
	}
	checkCounts(t, b, len(asks), 2*len(asks))
}

// Whether a table can be is asked of every n near those that have one, not at the edges alone.
func TestWhichCanBe(t *testing.T) {
	can := map[ask]bool{}
	for _, a := range goodAsks() {
		can[a] = true
	}
	b := New()
	for n := -1100; n <= 2100; n++ {
		for _, kind := range []string{"Turn", "Slope", "Filter"} {
			a := ask{kind, n}
			list, e := a.of(b)
			if can[a] != (e == api.OK) || can[a] != (len(list) > 0) || e != api.OK && e != api.ErrArg {
				t.Errorf("P4.1: %s(%d): %d numbers, error %d", kind, n, len(list), e)
			}
		}
	}
	checkCounts(t, b, len(can), len(can))
}

func TestNil(t *testing.T) {
	var b *Bank
	for _, a := range append(goodAsks(), badAsks()...) {
		if list, e := a.of(b); e != api.ErrNil || len(list) != 0 {
			t.Errorf("P4.1: %s(%d) of nil: %v, error %d, not %d", a.kind, a.n, list, e, api.ErrNil)
		}
		checkCounts(t, b, 0, 0)
	}
}

func TestOrders(t *testing.T) {
	asks := goodAsks()
	want := map[ask][]int16{}
	for _, a := range asks {
		want[a] = plainTable(t, a)
	}
	backwards := slices.Clone(asks)
	slices.Reverse(backwards)
	orders := [][]ask{asks, backwards}
	for seed := range int64(4) {
		mixed := slices.Concat(asks, asks, asks)
		rand.New(rand.NewSource(seed)).Shuffle(len(mixed), func(i, j int) { mixed[i], mixed[j] = mixed[j], mixed[i] })
		orders = append(orders, mixed)
	}
	for _, order := range orders {
		b := New()
		seen := map[ask]bool{}
		for i, a := range order {
			list, e := a.of(b)
			if e != api.OK || !slices.Equal(list, want[a]) {
				t.Fatalf("P4.2: %s(%d): %v, error %d, not %v", a.kind, a.n, list, e, want[a])
			}
			seen[a] = true
			if b.Made() != len(seen) || b.Told() != i+1 {
				t.Fatalf("P4.2: %s(%d): Made %d, Told %d, not %d, %d", a.kind, a.n, b.Made(), b.Told(), len(seen), i+1)
			}
		}
	}
}

// fill spoils a list to the end of its capacity: what lies behind its length must not be the bank's either.
func fill(list []int16) {
	list = list[:cap(list)]
	for i := range list {
		list[i] = 12345
	}
}

func TestToldIsTheCallers(t *testing.T) {
	b := New()
	for _, a := range goodAsks() {
		want := plainTable(t, a)
		first := checkAsk(t, b, a, want)
		second := checkAsk(t, b, a, want)
		fill(first)
		if !slices.Equal(second, want) {
			t.Fatalf("R4: %s(%d): two lists share memory", a.kind, a.n)
		}
		fill(second)
		if third, _ := a.of(b); !slices.Equal(third, want) {
			t.Fatalf("R4: %s(%d): the bank's table was changed", a.kind, a.n)
		}
	}
	for _, a := range goodAsks() {
		checkAsk(t, b, a, plainTable(t, a))
	}
}

// kept is the bank's own list of a table.
func kept(b *Bank, a ask) []int16 {
	switch a.kind {
	case "Turn":
		return b.turns[a.n/4-1].list
	case "Slope":
		return b.slopes[a.n-1].list
	default:
		return b.filters[a.n/4-1].list
	}
}

func TestMadeOnce(t *testing.T) {
	b := New()
	for _, a := range goodAsks() {
		if kept(b, a) != nil {
			t.Errorf("P4.2: %s(%d) was made ahead of being asked for", a.kind, a.n)
		}
		a.of(b)
		first := &kept(b, a)[0]
		a.of(b)
		if &kept(b, a)[0] != first {
			t.Errorf("P4.2: %s(%d) was made twice", a.kind, a.n)
		}
	}
}

func TestBanksApart(t *testing.T) {
	b, c := New(), New()
	if b == nil || b == c {
		t.Fatal("P4.1: New: not a bank of its own")
	}
	for i, a := range goodAsks() {
		a.of(b)
		checkCounts(t, b, i+1, i+1)
		checkCounts(t, c, 0, 0)
	}
}

func TestManyAtOnce(t *testing.T) {
	const askers = 8
	b := New()
	asks := goodAsks()
	told := make([][][]int16, askers)
	var all sync.WaitGroup
	for k := range told {
		all.Add(1)
		go func() {
			defer all.Done()
			for _, a := range asks {
				list, _ := a.of(b)
				told[k] = append(told[k], list)
			}
		}()
	}
	all.Wait()
	for i, a := range asks {
		want := plainTable(t, a)
		for k := range told {
			if !slices.Equal(told[k][i], want) {
				t.Fatalf("P4.2: %s(%d): %v, not %v", a.kind, a.n, told[k][i], want)
			}
		}
	}
	checkCounts(t, b, len(asks), askers*len(asks))
}

func TestBothSides(t *testing.T) {
	b := New()
	for _, m := range []int{4, 8} {
		list, e := b.Filter(m)
		if e != api.OK || len(list) != 10*m {
			t.Fatalf("P4.2: Filter(%d): %d numbers, error %d", m, len(list), e)
		}
		middle := 5 * m
		for d := 1; d < middle; d++ {
			if list[middle-d] != list[middle+d] {
				t.Errorf("P4.2: Filter(%d): %d and %d at %d from the middle", m, list[middle-d], list[middle+d], d)
			}
		}
	}
}
