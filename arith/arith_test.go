package arith

import (
	"bytes"
	"math"
	"math/big"
	"math/rand"
	"slices"
	"testing"

	"psaltery/api"
	"psaltery/bits"
)

// wide is a range that never drops a bit: its ends are numbers of 16 bits at first, and of one more behind each doubling. What is settled are the bits that both ends begin with.
type wide struct {
	low, high *big.Int
	doubled   int
}

func newWide() *wide {
	return &wide{low: big.NewInt(0), high: big.NewInt(65535)}
}

// partOf is the piece of the range that is a symbol's.
func (w *wide) partOf(t []int, s int) (low, high *big.Int) {
	floor, total := int64(0), int64(0)
	for i, share := range t {
		if i < s {
			floor += int64(share)
		}
		total += int64(share)
	}
	width := new(big.Int).Sub(w.high, w.low).Int64() + 1
	low = new(big.Int).Add(w.low, big.NewInt(width*floor/total))
	high = new(big.Int).Add(w.low, big.NewInt(width*(floor+int64(t[s]))/total-1))
	return low, high
}

// put doubles while the ends stand in one quarter or in two side by side.
func (w *wide) put(t []int, s int) {
	w.low, w.high = w.partOf(t, s)
	for {
		a, b := new(big.Int).Rsh(w.low, 14), new(big.Int).Rsh(w.high, 14)
		if b.Sub(b, a).Int64() > 1 {
			return
		}
		w.low.Lsh(w.low, 1)
		w.high.Lsh(w.high, 1)
		w.high.SetBit(w.high, 0, 1)
		w.doubled++
	}
}

// laid is a number of n bits as bits from the front.
func laid(x *big.Int, n int) []int {
	list := make([]int, n)
	for i := range list {
		list[i] = int(x.Bit(n - 1 - i))
	}
	return list
}

// told are the bits ahead of the end: those that both ends begin with.
func (w *wide) told() []int {
	unlike := new(big.Int).Xor(w.low, w.high).BitLen()
	return laid(new(big.Int).Rsh(w.low, uint(unlike)), w.doubled+16-unlike)
}

// ended are the bits behind the end: the first quarter above the one that low stands in.
func (w *wide) ended() []int {
	next := new(big.Int).Rsh(w.low, 14)
	return laid(next.Add(next, big.NewInt(1)), w.doubled+2)
}

// find is the symbol in whose piece the number stands that the bits begin with.
func (w *wide) find(t []int, list []int) int {
	value := new(big.Int)
	for i := range w.doubled + 16 {
		value.Lsh(value, 1)
		if i < len(list) {
			value.SetBit(value, 0, uint(list[i]))
		}
	}
	for s := range t {
		low, high := w.partOf(t, s)
		if value.Cmp(low) >= 0 && value.Cmp(high) <= 0 {
			return s
		}
	}
	return -1
}

func packed(list []int) []byte {
	b := make([]byte, (len(list)+7)/8)
	for i, x := range list {
		b[i/8] |= byte(x) << (7 - i%8)
	}
	return b
}

func unpacked(b []byte) []int {
	list := make([]int, 8*len(b))
	for i := range list {
		list[i] = int(b[i/8]>>(7-i%8)) & 1
	}
	return list
}

func even(n, share int) []int { return slices.Repeat([]int{share}, n) }

// goodTables are of few and many symbols, with even and uneven shares, with the least and the greatest totals.
func goodTables() [][]int {
	halves := []int{2048, 1024, 512, 256, 128, 64, 32, 16, 8, 4, 2, 1, 1}
	steps := make([]int, 32)
	for i := range steps {
		steps[i] = 1 + 7*i
	}
	first, last, mid := even(32, 1), even(32, 1), even(17, 1)
	first[0], last[31], mid[8] = 4065, 4065, 4080
	return [][]int{
		{1, 1}, {1, 4095}, {4095, 1}, {2048, 2048}, {1, 4094}, {4094, 1}, {1, 2}, {3, 5}, {2047, 2048}, {100, 1},
		{1, 1, 1}, {1, 2, 1}, {1, 4094, 1}, {4094, 1, 1}, {1, 1, 4094}, {1, 4093, 1}, {1365, 1365, 1365}, {1000, 2, 3000},
		even(17, 1), even(17, 240), mid, even(32, 1), even(32, 128), even(32, 127), first, last, steps, halves, {4000, 50, 40, 6},
	}
}

var badTables = [][]int{
	nil, {}, {1}, {4096}, {0}, even(33, 1), even(33, 124), even(64, 1), even(4096, 1),
	{0, 1}, {1, 0}, {0, 0}, {-1, 1}, {1, -1}, {-1, 3}, {4096, 0}, {4097, -1}, {5, 1, -2}, {1, 0, 1}, {1, 1, 0},
	{4096, 1}, {1, 4096}, {2048, 2049}, {4095, 1, 1}, {1365, 1366, 1366}, {4097, 1}, {1, 4097}, append(even(31, 128), 129), {8192, 8192},
	{math.MaxInt, 1}, {1, math.MaxInt}, {math.MaxInt, math.MaxInt}, {math.MaxInt, math.MaxInt, 4}, {math.MaxInt, math.MaxInt, 2, 2, 2},
	{1 << 62, 1 << 62, 1 << 62, 1 << 62}, {1 << 62, 1 << 62, 1 << 62, 1 << 62, 5, 5}, {1 << 63 / 2, 1 << 63 / 2, 1}, {1 << 32, 1}, {1<<32 + 1, 1<<32 + 1},
	{math.MinInt, 1}, {math.MinInt, math.MinInt}, {1, math.MinInt, math.MaxInt, 3}, {math.MaxInt, math.MinInt, 4},
}

// badSymbols are none of any table of n symbols.
func badSymbols(n int) []int {
	return []int{-1, -2, -n, n, n + 1, 2 * n, 1 << 32, -1 << 32, 1<<32 + 1, math.MinInt, math.MinInt + 1, math.MaxInt}
}

func put(t *testing.T, c *Coder, table []int, s int) {
	t.Helper()
	if e := c.Put(table, s); e != api.OK {
		t.Fatalf("P7.1: Put(%v, %d): error %d", table, s, e)
	}
}

func end(t *testing.T, c *Coder) {
	t.Helper()
	if e := c.End(); e != api.OK {
		t.Fatalf("P7.1: End: error %d", e)
	}
}

func coderIs(t *testing.T, c *Coder, want []int) {
	t.Helper()
	if c.Len() != len(want) || !bytes.Equal(c.Bits(), packed(want)) {
		t.Fatalf("P7.1: %d bits, %x; want %d, %x", c.Len(), c.Bits(), len(want), packed(want))
	}
}

func eyeOf(t *testing.T, b []byte) *bits.Eye {
	t.Helper()
	x, e := bits.Open(b)
	if e != api.OK {
		t.Fatalf("an eye on %d bytes: error %d", len(b), e)
	}
	return x
}

func finds(t *testing.T, f *Finder, table []int, want int) {
	t.Helper()
	if s, e := f.Get(table); s != want || e != api.OK {
		t.Fatalf("P7.2: Get(%v): %d, want %d, error %d", table, s, want, e)
	}
}

// run is symbols and the table of each.
type run struct {
	tables  [][]int
	symbols []int
}

func (x *run) add(table []int, s int) {
	x.tables = append(x.tables, table)
	x.symbols = append(x.symbols, s)
}

func oneRun(table []int, symbols ...int) run {
	var x run
	for _, s := range symbols {
		x.add(table, s)
	}
	return x
}

// byShare is a symbol as often as its share says.
func byShare(r *rand.Rand, table []int) int {
	total := 0
	for _, share := range table {
		total += share
	}
	k, s := r.Intn(total), 0
	for k >= table[s] {
		k -= table[s]
		s++
	}
	return s
}

// runs are of one table for all symbols and of another for each; of no symbol, one, many; the first, the last, the likely, any.
func runs() []run {
	r := rand.New(rand.NewSource(71))
	list := []run{{}}
	var mixed, likely run
	for _, table := range goodTables() {
		n := len(table)
		for s := range n {
			list = append(list, oneRun(table, s), oneRun(table, slices.Repeat([]int{s}, 60)...))
		}
		var mixture, shares, turns run
		for i := range 120 {
			mixture.add(table, r.Intn(n))
			shares.add(table, byShare(r, table))
			turns.add(table, i%2*(n-1))
		}
		list = append(list, mixture, shares, turns)
	}
	tables := goodTables()
	for range 250 {
		table := tables[r.Intn(len(tables))]
		mixed.add(table, r.Intn(len(table)))
		table = tables[r.Intn(len(tables))]
		likely.add(table, byShare(r, table))
	}
	return append(list, mixed, likely)
}

func coded(t *testing.T, x run) *Coder {
	t.Helper()
	c := NewCoder()
	for i, s := range x.symbols {
		put(t, c, x.tables[i], s)
	}
	end(t, c)
	return c
}

func TestCheck(t *testing.T) {
	for _, table := range goodTables() {
		keep := slices.Clone(table)
		if e := Check(table); e != api.OK || !slices.Equal(table, keep) {
			t.Errorf("P7.1: Check(%v): error %d", keep, e)
		}
	}
	for n := range 70 {
		want := api.ErrArg
		if n >= 2 && n <= 32 {
			want = api.OK
		}
		if e := Check(even(n, 1)); e != want {
			t.Errorf("P7.1: Check of %d symbols: error %d", n, e)
		}
	}
	for _, table := range badTables {
		if e := Check(table); e != api.ErrArg {
			t.Errorf("P7.1: Check(%v): error %d", table, e)
		}
	}
}

// The greatest total is 4096, whatever shares it is of.
func TestCheckTotals(t *testing.T) {
	for n := 2; n <= 32; n++ {
		for i := range n {
			table := even(n, 1)
			for total, want := range map[int]api.Errno{4095: api.OK, 4096: api.OK, 4097: api.ErrArg, 8192: api.ErrArg} {
				table[i] = total - n + 1
				if e := Check(table); e != want {
					t.Errorf("P7.1: Check(%v), a total of %d: error %d", table, total, e)
				}
			}
			for _, share := range []int{0, -1, math.MinInt, math.MaxInt} {
				table[i] = share
				if e := Check(table); e != api.ErrArg {
					t.Errorf("P7.1: Check(%v): error %d", table, e)
				}
			}
		}
	}
}

// The bits are the chapter's, or reckoned by hand.
func TestKnownBits(t *testing.T) {
	two, mid, four := []int{1, 1}, []int{1, 2, 1}, even(4, 1)
	for i, x := range []struct {
		put         run
		told, ended []int
	}{
		{oneRun(two, 1, 0, 1), []int{1, 0, 1}, []int{1, 0, 1, 0, 1}},
		{run{}, nil, []int{0, 1}},
		{oneRun(two, 0), []int{0}, []int{0, 0, 1}},
		{oneRun(two, 1), []int{1}, []int{1, 0, 1}},
		{oneRun(four, 0, 1, 2, 3), []int{0, 0, 0, 1, 1, 0, 1, 1}, []int{0, 0, 0, 1, 1, 0, 1, 1, 0, 1}},
		{oneRun(mid, 1), nil, []int{0, 1, 1}},
		{oneRun(mid, 1, 1, 1, 1, 1), nil, []int{0, 1, 1, 1, 1, 1, 1}},
		{oneRun(mid, 1, 1, 1, 0), []int{0, 1, 1, 1, 0}, []int{0, 1, 1, 1, 0, 0, 1}},
		{oneRun(mid, 1, 1, 1, 2), []int{1, 0, 0, 0, 1}, []int{1, 0, 0, 0, 1, 0, 1}},
		{oneRun(mid, 0, 1, 2), []int{0, 0, 1, 0, 1}, []int{0, 0, 1, 0, 1, 0, 1}},
		// The first 16 numbers, and the last 16: 12 bits that are all the same.
		{oneRun([]int{1, 4095}, 0), even(12, 0), append(even(13, 0), 1)},
		{oneRun([]int{4095, 1}, 1), even(12, 1), append(even(12, 1), 0, 1)},
		// From 16384 on, and up to 49151: nothing can be told, and the end stands in the third quarter, or in the second.
		{oneRun([]int{1, 3}, 1), nil, []int{1, 0}},
		{oneRun([]int{3, 1}, 0), nil, []int{0, 1}},
		// From 21845 to 43689: one bit is owed, and the end stands in the second quarter.
		{oneRun([]int{1, 1, 1}, 1), nil, []int{0, 1, 1}},
	} {
		c := NewCoder()
		for j, s := range x.put.symbols {
			put(t, c, x.put.tables[j], s)
		}
		if c.Len() != len(x.told) || !bytes.Equal(c.Bits(), packed(x.told)) {
			t.Errorf("P7.1: row %d: %d bits, %x, want %v", i, c.Len(), c.Bits(), x.told)
		}
		end(t, c)
		if c.Len() != len(x.ended) || !bytes.Equal(c.Bits(), packed(x.ended)) {
			t.Errorf("P7.1: row %d, behind End: %d bits, %x, want %v", i, c.Len(), c.Bits(), x.ended)
		}
	}
}

func TestEveryBit(t *testing.T) {
	for _, x := range runs() {
		c, want := NewCoder(), newWide()
		coderIs(t, c, nil)
		for i, s := range x.symbols {
			put(t, c, x.tables[i], s)
			want.put(x.tables[i], s)
			coderIs(t, c, want.told())
		}
		end(t, c)
		coderIs(t, c, want.ended())
	}
}

// ends are the range's ends as numbers of 16 bits: what both begin with is dropped, and so are the bits that are owed, which lie round the middle.
func (w *wide) ends() (low, high int) {
	unlike := uint(new(big.Int).Xor(w.low, w.high).BitLen())
	base := new(big.Int).Rsh(w.low, unlike)
	base.Lsh(base, unlike)
	owed := new(big.Int).Lsh(big.NewInt(1), unlike-1)
	base.Add(base, owed.Sub(owed, big.NewInt(32768)))
	low = int(new(big.Int).Sub(w.low, base).Int64())
	return low, int(new(big.Int).Sub(w.high, base).Int64())
}

// roofAt is the least count of parts of total behind which at numbers of width lie, if there is one.
func roofAt(at, width, total int) (int, bool) {
	parts := (at*total + width - 1) / width
	return parts, at >= 0 && parts*width/total == at
}

// tableTo is a table whose middle symbol narrows the range just to low and high.
func (w *wide) tableTo(low, high int) []int {
	from, to := w.ends()
	for total := 3; total <= 4096; total++ {
		floor, ok := roofAt(low-from, to-from+1, total)
		roof, well := roofAt(high+1-from, to-from+1, total)
		if ok && well && floor > 0 && floor < roof && roof < total {
			return []int{floor, roof - floor, total - roof}
		}
	}
	return nil
}

// A range that is narrowed to the edges of its quarters, and to one number more or less at either end.
func TestQuarterEdges(t *testing.T) {
	r := rand.New(rand.NewSource(76))
	tables := goodTables()
	for _, low := range []int{16383, 16384, 16385, 32767, 32768, 32769} {
		for _, high := range []int{32766, 32767, 32768, 49151, 49152, 49153} {
			// No symbol's piece is narrower than four numbers.
			if high-low < 3 {
				continue
			}
			var x run
			want, table := newWide(), []int(nil)
			for table == nil && len(x.symbols) < 1000 {
				chosen := tables[r.Intn(len(tables))]
				x.add(chosen, byShare(r, chosen))
				want.put(chosen, x.symbols[len(x.symbols)-1])
				table = want.tableTo(low, high)
			}
			if table == nil {
				t.Fatalf("no table narrows a range to %d and %d", low, high)
			}
			want.put(table, 1)
			x.add(table, 1)
			c := coded(t, x)
			coderIs(t, c, want.ended())
			foundAgain(t, x, c, 0, nil)
		}
	}
}

// Bits that are owed a thousand times in a row are told by one that isn't, or by the end.
func TestManyOwed(t *testing.T) {
	mid := []int{1, 2, 1}
	for _, n := range []int{0, 1, 7, 8, 9, 1000, 100000} {
		for last, bit := range []int{0, 1} {
			c := NewCoder()
			for range n {
				put(t, c, mid, 1)
			}
			coderIs(t, c, nil)
			put(t, c, mid, 2*last)
			want := append([]int{bit}, even(n, 1-bit)...)
			want = append(want, bit)
			coderIs(t, c, want)
			end(t, c)
			coderIs(t, c, append(want, 0, 1))
		}
		c := NewCoder()
		for range n {
			put(t, c, mid, 1)
		}
		end(t, c)
		coderIs(t, c, append([]int{0}, even(n+1, 1)...))
	}
}

// A wrong call changes nothing: what comes behind it is as if it had never been.
func TestPutRefuses(t *testing.T) {
	x := runs()[len(runs())-1]
	c, want := NewCoder(), newWide()
	for i, s := range x.symbols {
		refusesPuts(t, c, api.ErrArg, x.tables[i])
		coderIs(t, c, want.told())
		put(t, c, x.tables[i], s)
		want.put(x.tables[i], s)
	}
	end(t, c)
	coderIs(t, c, want.ended())
}

func refusesPuts(t *testing.T, c *Coder, want api.Errno, good []int) {
	t.Helper()
	for _, table := range badTables {
		for _, s := range []int{0, 1, -1, len(table), math.MinInt, math.MaxInt} {
			if e := c.Put(table, s); e != want {
				t.Fatalf("P7.1: Put(%v, %d): error %d, want %d", table, s, e, want)
			}
		}
	}
	for _, s := range badSymbols(len(good)) {
		if e := c.Put(good, s); e != want {
			t.Fatalf("P7.1: Put(%v, %d): error %d, want %d", good, s, e, want)
		}
	}
}

func TestBehindEnd(t *testing.T) {
	for _, x := range []run{{}, oneRun([]int{1, 1}, 1, 0, 1), oneRun([]int{1, 2, 1}, 1, 1, 1), oneRun([]int{1, 4095}, 0)} {
		c := coded(t, x)
		n, b := c.Len(), c.Bits()
		for range 3 {
			if e := c.End(); e != api.ErrState {
				t.Errorf("P7.1: End behind End: error %d", e)
			}
			for s := range 3 {
				if e := c.Put([]int{5, 1, 2}, s); e != api.ErrState {
					t.Errorf("P7.1: Put behind End: error %d", e)
				}
			}
			refusesPuts(t, c, api.ErrState, []int{5, 1, 2})
			if c.Len() != n || !bytes.Equal(c.Bits(), b) {
				t.Fatalf("P7.1: behind End %d bits, %x, became %d, %x", n, b, c.Len(), c.Bits())
			}
		}
	}
}

// What Bits told is the caller's, to the end of its capacity; the coder goes on as it was.
func TestBitsAreNew(t *testing.T) {
	x := runs()[len(runs())-1]
	c, want := NewCoder(), newWide()
	for i, s := range x.symbols {
		first, second := c.Bits(), c.Bits()
		keep := bytes.Clone(second)
		first = first[:cap(first)]
		for j := range first {
			first[j] ^= 0xff
		}
		if !bytes.Equal(second, keep) {
			t.Fatal("P7.1: two answers of Bits lie in one memory")
		}
		put(t, c, x.tables[i], s)
		want.put(x.tables[i], s)
		coderIs(t, c, want.told())
		if !bytes.Equal(second, keep) {
			t.Fatal("P7.1: what Bits told changed with the coder")
		}
	}
	end(t, c)
	spoilt := c.Bits()
	for j := range spoilt {
		spoilt[j] ^= 0xff
	}
	coderIs(t, c, want.ended())
}

// A table is the caller's: it isn't changed, and none is kept.
func TestTablesAreNotKept(t *testing.T) {
	x := runs()[len(runs())-1]
	c, want := NewCoder(), newWide()
	for i, s := range x.symbols {
		// What lies behind the table, within its capacity, is none of it.
		room := append(slices.Clone(x.tables[i]), 9, 9, 9)
		table := room[:len(x.tables[i])]
		put(t, c, table, s)
		want.put(x.tables[i], s)
		if !slices.Equal(room, append(slices.Clone(x.tables[i]), 9, 9, 9)) {
			t.Fatalf("P7.1: Put made %v of %v", room, x.tables[i])
		}
		clear(room)
		coderIs(t, c, want.told())
	}
	end(t, c)
	coderIs(t, c, want.ended())
	f := NewFinder(eyeOf(t, c.Bits()), 0)
	for i, s := range x.symbols {
		table := slices.Clone(x.tables[i])
		finds(t, f, table, s)
		if !slices.Equal(table, x.tables[i]) {
			t.Fatalf("P7.2: Get made %v of %v", table, x.tables[i])
		}
		clear(table)
	}
}

func TestCodersShareNothing(t *testing.T) {
	a, b := NewCoder(), NewCoder()
	put(t, a, []int{1, 1}, 1)
	coderIs(t, b, nil)
	put(t, b, []int{1, 1}, 0)
	put(t, a, []int{1, 2, 1}, 1)
	end(t, a)
	coderIs(t, a, []int{1, 0, 1, 1})
	coderIs(t, b, []int{0})
	end(t, b)
	coderIs(t, b, []int{0, 0, 1})
}

func TestCoderOfNil(t *testing.T) {
	var c *Coder
	refusesPuts(t, c, api.ErrNil, []int{1, 1})
	if e := c.Put([]int{1, 1}, 0); e != api.ErrNil {
		t.Errorf("P7.1: nil.Put: error %d", e)
	}
	if e := c.End(); e != api.ErrNil {
		t.Errorf("P7.1: nil.End: error %d", e)
	}
	if c.Len() != 0 || len(c.Bits()) != 0 {
		t.Errorf("P7.1: nil: Len %d, Bits %x", c.Len(), c.Bits())
	}
}

// The symbols of bits that nobody coded, reckoned by hand.
func TestKnownSymbols(t *testing.T) {
	for i, x := range []struct {
		b       []byte
		from    int
		table   []int
		symbols []int
		read    int
	}{
		{[]byte{0xa8}, 0, []int{1, 1}, []int{1, 0, 1, 0, 1, 0, 0, 0, 0, 0}, 26},
		{[]byte{0xa8}, 1, []int{1, 1}, []int{0, 1, 0, 1, 0, 0, 0}, 23},
		{[]byte{0xa8}, -5, []int{1, 1}, []int{1, 0, 1}, 19},
		{[]byte{0x1b}, 0, even(4, 1), []int{0, 1, 2, 3, 0}, 26},
		{[]byte{0x7c}, 0, []int{1, 2, 1}, []int{1, 1, 1, 1, 1, 0}, 23},
		{[]byte{0xff, 0xff, 0xff}, 0, []int{4095, 1}, []int{1, 1, 0, 0}, 40},
		{nil, 0, []int{4095, 1}, []int{0, 0, 0}, 16},
		{nil, 0, []int{1, 4095}, []int{0, 0, 0}, 52},
	} {
		f := NewFinder(eyeOf(t, x.b), x.from)
		if f.Read() != 16 {
			t.Errorf("P7.2: row %d: a new finder read %d bits", i, f.Read())
		}
		for j, want := range x.symbols {
			if s, e := f.Get(x.table); s != want || e != api.OK {
				t.Errorf("P7.2: row %d, symbol %d: %d, want %d, error %d", i, j, s, want, e)
			}
		}
		if f.Read() != x.read {
			t.Errorf("P7.2: row %d: %d bits were read, want %d", i, f.Read(), x.read)
		}
	}
}

func anyBlocks() [][]byte {
	r := rand.New(rand.NewSource(72))
	list := [][]byte{nil, {}, {0}, {0x80}, {0xff}, {1}, {0xff, 0xff}, {0x80, 0}, {0x7f, 0xff}, {0x55, 0x55, 0x55}, make([]byte, 40), bytes.Repeat([]byte{255}, 40), bytes.Repeat([]byte{255}, 512)}
	for _, n := range []int{1, 2, 3, 7, 40, 511, 512} {
		b := make([]byte, n)
		r.Read(b)
		list = append(list, b)
	}
	return list
}

// followsModel asks a finder over list for many symbols, by turns of all the tables.
func followsModel(t *testing.T, f *Finder, list []int, tables [][]int, n int) {
	t.Helper()
	want := newWide()
	for i := range n {
		table := tables[i%len(tables)]
		s := want.find(table, list)
		if s < 0 {
			t.Fatalf("P7.3: no symbol of %v", table)
		}
		finds(t, f, table, s)
		want.put(table, s)
		if f.Read() != want.doubled+16 {
			t.Fatalf("P7.2: %d bits were read, want %d", f.Read(), want.doubled+16)
		}
	}
}

// Any bits have a symbol, far behind the last of them, too.
func TestAnyBitsAreFound(t *testing.T) {
	for _, b := range anyBlocks() {
		followsModel(t, NewFinder(eyeOf(t, b), 0), unpacked(b), goodTables(), 150)
		for _, table := range goodTables() {
			followsModel(t, NewFinder(eyeOf(t, b), 0), unpacked(b), [][]int{table}, 30)
		}
	}
}

func TestFrom(t *testing.T) {
	for _, b := range anyBlocks() {
		list := unpacked(b)
		n := len(list)
		for _, from := range []int{0, 1, 7, 8, 9, 15, 16, 17, n / 2, n - 17, n - 16, n - 8, n - 2, n - 1, n, n + 1, n + 15, n + 16, 4095, 4096, 4097, 1 << 31, 1 << 32, math.MaxInt - 16, math.MaxInt - 15, math.MaxInt - 1, math.MaxInt} {
			followsModel(t, NewFinder(eyeOf(t, b), from), list[min(max(from, 0), n):], goodTables(), 40)
		}
		for _, from := range []int{-1, -2, -8, -16, -n, -n - 1, -1 << 32, math.MinInt, math.MinInt + 1} {
			followsModel(t, NewFinder(eyeOf(t, b), from), list, goodTables(), 40)
		}
	}
}

func TestEyeOfNil(t *testing.T) {
	for _, from := range []int{0, 1, -1, 4096, math.MinInt, math.MaxInt} {
		f := NewFinder(nil, from)
		if f == nil || f.Read() != 16 {
			t.Fatalf("P7.2: NewFinder(nil, %d): %v, %d bits read", from, f != nil, f.Read())
		}
		for _, table := range badTables {
			if s, e := f.Get(table); s != 0 || e != api.ErrArg {
				t.Fatalf("P7.2: Get(%v): %d, error %d", table, s, e)
			}
		}
		followsModel(t, f, nil, goodTables(), 100)
	}
}

func TestFinderOfNil(t *testing.T) {
	var f *Finder
	for _, table := range append(goodTables(), badTables...) {
		if s, e := f.Get(table); s != 0 || e != api.ErrNil {
			t.Errorf("P7.2: nil.Get(%v): %d, error %d", table, s, e)
		}
	}
	if f.Read() != 0 {
		t.Errorf("P7.2: nil.Read: %d", f.Read())
	}
}

// A wrong call changes nothing: what is found behind it is as if it had never been.
func TestGetRefuses(t *testing.T) {
	for _, b := range anyBlocks() {
		f, want := NewFinder(eyeOf(t, b), 0), NewFinder(eyeOf(t, b), 0)
		for _, table := range goodTables() {
			for _, bad := range badTables {
				if s, e := f.Get(bad); s != 0 || e != api.ErrArg {
					t.Fatalf("P7.2: Get(%v): %d, error %d", bad, s, e)
				}
			}
			if f.Read() != want.Read() {
				t.Fatalf("P7.2: %d bits read, want %d", f.Read(), want.Read())
			}
			s, e := want.Get(table)
			if e != api.OK {
				t.Fatalf("P7.2: Get(%v): error %d", table, e)
			}
			finds(t, f, table, s)
		}
	}
}

// A finder looks at bits that were taken as at others, takes none, and knows nothing of another finder.
func TestFinderTakesNothing(t *testing.T) {
	x := runs()[len(runs())-1]
	b := coded(t, x).Bits()
	eye := eyeOf(t, b)
	f, g := NewFinder(eye, 0), NewFinder(eye, 0)
	front, back := 0, 0
	for i, s := range x.symbols {
		if i%10 == 0 && eye.Left() >= 20 {
			eye.Front(11)
			eye.Back(9)
			front, back = front+11, back+9
		}
		finds(t, f, x.tables[i], s)
	}
	for i, s := range x.symbols {
		finds(t, g, x.tables[i], s)
	}
	if a, z := eye.Used(); a != front || z != back || eye.Left() != 8*len(b)-front-back {
		t.Errorf("P7.2: an eye of which %d and %d bits were taken: %d, %d", front, back, a, z)
	}
}

// tails are what stands behind the coder's bits: nothing, bits 0, bits 1, any.
func tails() [][]int {
	r := rand.New(rand.NewSource(73))
	list := [][]int{nil, even(64, 0), even(64, 1), append([]int{1}, even(63, 0)...), append([]int{0}, even(63, 1)...)}
	for range 8 {
		tail := make([]int, 1+r.Intn(64))
		for i := range tail {
			tail[i] = r.Intn(2)
		}
		list = append(list, tail)
	}
	return list
}

func foundAgain(t *testing.T, x run, c *Coder, from int, tail []int) {
	t.Helper()
	list := append(slices.Clone(unpacked(c.Bits())[:c.Len()]), tail...)
	ahead := make([]int, from)
	for i := range ahead {
		ahead[i] = (i*i/3 + 1) & 1
	}
	f := NewFinder(eyeOf(t, packed(append(ahead, list...))), from)
	for i, want := range x.symbols {
		if s, e := f.Get(x.tables[i]); s != want || e != api.OK {
			t.Fatalf("P7.3: from %d, symbol %d of %d: %d, want %d, error %d", from, i, len(x.symbols), s, want, e)
		}
	}
	if f.Read() != c.Len()+14 {
		t.Fatalf("P7.2: %d bits were read, %d told", f.Read(), c.Len())
	}
}

func TestPutIsFound(t *testing.T) {
	for _, x := range runs() {
		c := coded(t, x)
		for _, tail := range tails() {
			foundAgain(t, x, c, 0, tail)
		}
		for _, from := range []int{1, 7, 8, 13, 500} {
			foundAgain(t, x, c, from, tails()[1])
			foundAgain(t, x, c, from, tails()[2])
			foundAgain(t, x, c, from, tails()[7])
		}
	}
}

// As many symbols as an eye has room for.
func TestLongRunsAreFound(t *testing.T) {
	r := rand.New(rand.NewSource(74))
	for _, tables := range append([][][]int{goodTables()}, splitTables()...) {
		var x run
		c := NewCoder()
		for len(x.symbols) < 20000 && c.Len() < 3900 {
			table := tables[r.Intn(len(tables))]
			s := byShare(r, table)
			put(t, c, table, s)
			x.add(table, s)
		}
		end(t, c)
		if c.Len() > 4000 {
			t.Fatalf("P7.1: %d bits of %d symbols", c.Len(), len(x.symbols))
		}
		for _, tail := range tails() {
			foundAgain(t, x, c, 0, tail)
			foundAgain(t, x, c, 31, tail)
		}
	}
}

func splitTables() [][][]int {
	var list [][][]int
	for _, table := range goodTables() {
		list = append(list, [][]int{table})
	}
	return list
}

// A run of bits that are owed is as long as an eye has room for, and found as well.
func TestOwedIsFound(t *testing.T) {
	mid := []int{1, 2, 1}
	for _, last := range []int{0, 1, 2} {
		x := oneRun(mid, append(slices.Repeat([]int{1}, 3000), last)...)
		c := coded(t, x)
		for _, tail := range tails() {
			foundAgain(t, x, c, 0, tail)
			foundAgain(t, x, c, 5, tail)
		}
	}
}

// dearest is the symbol that asks for the most doublings.
func dearest(w *wide, table []int) int {
	best, most := 0, -1
	for s := range table {
		next := &wide{low: w.low, high: w.high, doubled: w.doubled}
		if next.put(table, s); next.doubled > most {
			best, most = s, next.doubled
		}
	}
	return best
}

// At most 14 bits a symbol, and two at the end; and there are symbols that take all 14.
func TestBitsOfASymbol(t *testing.T) {
	most := 0
	for _, x := range runs() {
		most = max(most, bitsHold(t, x))
	}
	r := rand.New(rand.NewSource(75))
	tables := goodTables()
	for range 60 {
		var x run
		w := newWide()
		for range 60 {
			table := tables[r.Intn(len(tables))]
			s := dearest(w, table)
			w.put(table, s)
			x.add(table, s)
		}
		most = max(most, bitsHold(t, x))
	}
	if most != 14 {
		t.Errorf("P7.3: the dearest symbol took %d bits", most)
	}
}

// bitsHold tells how many bits the dearest symbol took, told or owed.
func bitsHold(t *testing.T, x run) int {
	t.Helper()
	c, w, most := NewCoder(), newWide(), 0
	for i, s := range x.symbols {
		before := w.doubled
		put(t, c, x.tables[i], s)
		w.put(x.tables[i], s)
		most = max(most, w.doubled-before)
		if c.Len() > 14*(i+1) {
			t.Fatalf("P7.3: %d symbols took %d bits", i+1, c.Len())
		}
	}
	end(t, c)
	if n := len(x.symbols); c.Len() > 14*n+2 || c.Len() != w.doubled+2 {
		t.Fatalf("P7.3: %d symbols and the end took %d bits", n, c.Len())
	}
	return most
}
