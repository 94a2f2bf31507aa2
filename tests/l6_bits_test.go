package tests

import (
	"math/bits"
	"slices"
	"strings"
	"testing"

	"loop.example/g00010/impl"
)

// sizesToTry are those of numbers and of pieces, and those just beside.
var sizesToTry = append([]int64{1, 4, 5, 6, 8, 10, 30, 32, 34, 48, 62, 64}, strange...)

// numbersOfBits are some of each number of bits.
func numbersOfBits() []uint64 {
	out := []uint64{0, 5, 37, 1<<63 + 1}
	for k := range 64 {
		out = append(out, 1<<k, 1<<k-1, 1<<k|1<<(k/2))
	}
	return append(out, 1<<64-1)
}

func drawBits(s *sequence, count int) string {
	var text strings.Builder
	for range count {
		text.WriteByte('0' + byte(s.below(2)))
	}
	return text.String()
}

// unsoundBits are none, each for a reason of its own.
func unsoundBits() []impl.Bits {
	return []impl.Bits{
		{Count: 1}, {Count: 8}, {Count: -1}, {Count: -8}, {Count: -1 << 63}, {Count: 1<<63 - 1}, {Count: 1<<63 - 8}, {Count: 1 << 32},
		{Bytes: []byte{0}}, {Bytes: []byte{1}}, {Bytes: []byte{0}, Count: -1}, {Bytes: []byte{3}, Count: -8}, {Bytes: []byte{0}, Count: -1 << 63}, {Bytes: []byte{7}, Count: 9}, {Bytes: []byte{7}, Count: 1<<63 - 1},
		{Bytes: []byte{2}, Count: 1}, {Bytes: []byte{129}, Count: 7}, {Bytes: []byte{16, 16}, Count: 12}, {Bytes: []byte{255, 255}, Count: 9}, {Bytes: []byte{255, 128}, Count: 15},
		{Bytes: []byte{1, 0}, Count: 8}, {Bytes: []byte{1, 0}, Count: 7}, {Bytes: []byte{1, 0}, Count: 1}, {Bytes: []byte{1, 1}, Count: 17}, {Bytes: []byte{1, 1, 0}, Count: 16}, {Bytes: make([]byte, 8), Count: 1},
		{Bytes: []byte{255}, Count: 1<<32 + 8}, {Bytes: []byte{255, 255}, Count: 24}, {Bytes: []byte{255, 255}, Count: 65552},
	}
}

func checkPut(t *testing.T, b impl.Bits, v uint64, n int64) {
	t.Helper()
	if got, want := impl.PutBits(b, v, n), wantPutBits(b, v, n); !alike(got, want) {
		t.Fatalf("PutBits %v %d %d gives %v, not %v", b, v, n, got, want)
	}
	got, want := impl.PutVar(b, v, n), wantPutVar(b, v, n)
	if !alike(got, want) {
		t.Fatalf("PutVar %v %d %d gives %v, not %v", b, v, n, got, want)
	}
	from := int64(len(textOfBits(b)))
	if n < 2 || n > 32 {
		return
	}
	if back := impl.GetVar(got, from, n); back != (impl.BitResult{Good: true, Word: v, At: got.Count}) {
		t.Fatalf("PutVar %v %d %d is read back as %v", b, v, n, back)
	}
}

// checkGet asks at a place for a number of bits, and for one in pieces, and tells how often it was given one.
func checkGet(t *testing.T, b impl.Bits, at, n int64) (goods int) {
	t.Helper()
	one, two := impl.GetBits(b, at, n), impl.GetVar(b, at, n)
	if want := wantGetBits(b, at, n); one != want {
		t.Fatalf("GetBits %v %d %d gives %v, not %v", b, at, n, one, want)
	}
	if want := wantGetVar(b, at, n); two != want {
		t.Fatalf("GetVar %v %d %d gives %v, not %v", b, at, n, two, want)
	}
	for _, r := range []impl.BitResult{one, two} {
		if r.Good {
			goods++
		}
	}
	return goods
}

// TestBitsByHand: the lowest bit of a number and of a byte comes first.
func TestBitsByHand(t *testing.T) {
	b := impl.PutBits(impl.Bits{}, 0b101, 3)
	b = impl.PutBits(b, 0b11001, 6)
	if !alike(b, impl.Bits{Bytes: []byte{0b11001101, 0}, Count: 9}) {
		t.Errorf("PutBits gives %b", b)
	}
	b = impl.PutBits(b, 0xfedcba9876543210, 64)
	if !alike(b, impl.Bits{Bytes: []byte{0b11001101, 0x20, 0x64, 0xa8, 0xec, 0x30, 0x75, 0xb9, 0xfd, 1}, Count: 73}) {
		t.Errorf("PutBits gives %x", b)
	}
	for n, want := range map[int64]impl.BitResult{
		1: {Good: true, Word: 0, At: 2}, 2: {Good: true, Word: 0b10, At: 3}, 8: {Good: true, Word: 0b1100110, At: 9}, 64: {Good: true, Word: 0xdcba987654321066, At: 65},
		0: {}, -1: {}, 65: {}, -64: {}, 1 << 62: {},
	} {
		if got := impl.GetBits(b, 1, n); got != want {
			t.Errorf("GetBits 1, %d gives %v, not %v", n, got, want)
		}
	}
}

// TestPiecesByHand: each piece with its highest bit last, which says whether more follow.
func TestPiecesByHand(t *testing.T) {
	for _, c := range []struct {
		v    uint64
		n    int64
		text string
	}{
		{0, 2, "00"}, {1, 2, "10"}, {2, 2, "0110"}, {3, 2, "1110"}, {4, 2, "010110"}, {5, 2, "110110"}, {1 << 63, 2, strings.Repeat("01", 63) + "10"}, {1<<64 - 1, 2, strings.Repeat("11", 63) + "10"},
		{0, 3, "000"}, {3, 3, "110"}, {4, 3, "001100"}, {0, 6, "000000"}, {31, 6, "111110"}, {32, 6, "000001100000"}, {37, 6, "101001100000"}, {1024, 6, "000001000001100000"}, {1023, 6, "111111111110"},
		{1 << 63, 6, strings.Repeat("000001", 12) + "000100"}, {1<<64 - 1, 6, strings.Repeat("111111", 12) + "111100"},
		{255, 9, "111111110"}, {256, 9, "000000001100000000"}, {1 << 63, 9, strings.Repeat("000000001", 7) + "000000010"},
		{0, 32, strings.Repeat("0", 32)}, {1<<31 - 1, 32, strings.Repeat("1", 31) + "0"}, {1 << 31, 32, strings.Repeat("0", 31) + "11" + strings.Repeat("0", 31)},
		{1 << 63, 32, strings.Repeat(strings.Repeat("0", 31)+"1", 2) + "01" + strings.Repeat("0", 30)},
		{1<<62 - 1, 32, strings.Repeat("1", 63) + "0"},
	} {
		got := impl.PutVar(impl.Bits{}, c.v, c.n)
		if textOfBits(got) != c.text || !alike(got, bitsOfText(c.text)) {
			t.Errorf("PutVar %d %d gives %s", c.v, c.n, textOfBits(got))
		}
		if got := impl.GetVar(bitsOfText("101"+c.text+"1"), 3, c.n); got != (impl.BitResult{Good: true, Word: c.v, At: int64(3 + len(c.text))}) {
			t.Errorf("GetVar of %s gives %v", c.text, got)
		}
	}
}

// TestPiecesThatAreNoNumber: too many, too few, and more than 64 bits.
func TestPiecesThatAreNoNumber(t *testing.T) {
	all := func(piece string, count int) string { return strings.Repeat(piece, count) }
	for _, c := range []struct {
		n    int64
		text string
	}{
		{2, "0100"}, {2, "1100"}, {2, "111100"}, {2, "011100"}, {2, "0101"}, {2, "1"}, {2, "0"}, {2, "11"}, {2, "111"}, {2, ""},
		{2, all("11", 64) + "10"}, {2, all("11", 64) + "00"}, {2, all("01", 64) + "00"}, {2, all("01", 64) + "10"}, {2, all("01", 200)}, {2, all("11", 64)}, {2, all("11", 65) + "10"}, {2, all("01", 1000) + "10"},
		{6, "100001000000"}, {6, "000001000000"}, {6, "10000"}, {6, "100001"}, {6, "10000110000"}, {6, "100001100001"}, {6, all("000001", 2) + "000000"}, {6, "000001100001000000"},
		{6, all("000001", 12) + "000010"}, {6, all("111111", 12) + "111110"}, {6, all("000001", 12) + "000110"}, {6, all("000001", 12) + "000000"}, {6, all("111111", 13) + "000000"}, {6, all("000001", 13) + "100000"}, {6, all("111101", 13) + "000000"}, {6, all("111111", 12) + "111101" + "000000"},
		{3, all("111", 32) + "000"}, {3, all("111", 32) + "100"}, {3, all("111", 31) + "000"}, {5, all("00001", 16) + "10000"}, {9, all("000000001", 8) + "100000000"}, {9, all("000000001", 8) + "000000000"}, {17, all("1", 68) + "1" + all("0", 16)},
		{32, all(all("0", 31)+"1", 2) + "001" + all("0", 29)}, {32, all("1", 64) + all("1", 31) + "0"}, {32, all("1", 64) + all("0", 32)}, {32, all("1", 64) + all("0", 30) + "10"}, {32, all("1", 96) + all("0", 32)}, {32, all("1", 96) + "1" + all("0", 31)}, {32, all("1", 64) + all("1", 31)}, {32, all("1", 31)},
	} {
		if got := impl.GetVar(bitsOfText(c.text), 0, c.n); got != (impl.BitResult{}) {
			t.Errorf("GetVar of %s by %d gives %v", c.text, c.n, got)
		}
		checkGet(t, bitsOfText(c.text), 0, c.n)
	}
}

func TestPutAtEdges(t *testing.T) {
	s := sequence(61)
	for count := range 20 {
		b := bitsOfText(drawBits(&s, count))
		for _, n := range sizesToTry {
			for _, v := range numbersOfBits() {
				checkPut(t, b, v, n)
			}
		}
	}
}

// TestPutAllSizes: with each size the number of so many bits goes in, and the one above does not.
func TestPutAllSizes(t *testing.T) {
	for n := int64(-3); n <= 70; n++ {
		for _, b := range []impl.Bits{{}, bitsOfText("10110")} {
			for k := max(0, n-1); k <= min(63, n+1); k++ {
				checkPut(t, b, 1<<k, n)
				checkPut(t, b, 1<<k-1, n)
			}
			checkPut(t, b, 1<<64-1, n)
		}
	}
}

func TestGetAtEdges(t *testing.T) {
	s := sequence(62)
	goods := 0
	for _, count := range []int{0, 1, 2, 7, 8, 9, 31, 32, 33, 63, 64, 65, 66, 71, 72, 73, 130} {
		b := bitsOfText(drawBits(&s, count))
		places := []int64{-1 << 63, -1<<63 + 64, -65, -64, -8, 1 << 32, 1 << 62, 1<<63 - 65, 1<<63 - 64, 1<<63 - 33, 1<<63 - 32, 1<<63 - 3, 1<<63 - 2, 1<<63 - 1}
		for at := int64(-2); at < int64(count)+3; at++ {
			places = append(places, at)
		}
		for _, at := range places {
			for _, n := range sizesToTry {
				goods += checkGet(t, b, at, n)
			}
		}
	}
	if goods < 5000 {
		t.Error("only", goods, "numbers were there")
	}
}

// TestGetAllShortBits: all bits of up to 11, at each place.
func TestGetAllShortBits(t *testing.T) {
	t.Parallel()
	for count := range 12 {
		for v := range 1 << count {
			b := bitsOfText(binary(bigWord(uint64(v)), count)[:count])
			for at := int64(-1); at <= int64(count)+1; at++ {
				for n := int64(0); n <= 6; n++ {
					checkGet(t, b, at, n)
				}
			}
		}
	}
}

// TestGetDrawnPieces: pieces of which most say that more follow, and the last ones are often 0.
func TestGetDrawnPieces(t *testing.T) {
	t.Parallel()
	s := sequence(63)
	goods, count := 0, 0
	for range 20000 {
		n := int64(2 + s.below(8))
		if s.below(4) == 0 {
			n = int64(2 + s.below(31))
		}
		text := drawBits(&s, s.below(9))
		from := int64(len(text))
		most := 64/int(n-1) + 3
		for k := range 1 + s.below(most) {
			piece := drawBits(&s, int(n-1))
			if s.below(3) == 0 {
				piece = strings.Repeat("0", max(0, int(n-1)-s.below(4))) + "111"
			}
			if k > 0 {
				text += "1"
			}
			text += piece[:n-1]
		}
		if s.below(8) > 0 {
			text += "0"
		}
		count++
		goods += checkGet(t, bitsOfText(text), from, n)
	}
	if goods < count/4 {
		t.Error(goods, "of", count)
	}
}

func TestUnsoundBitsAreNone(t *testing.T) {
	for _, b := range unsoundBits() {
		if textOfBits(b) != "" {
			t.Error("the test takes", b, "for bits")
		}
		for _, n := range sizesToTry {
			for _, v := range []uint64{0, 1, 2, 200, 1<<64 - 1} {
				for name, got := range map[string]impl.Bits{"PutBits": impl.PutBits(b, v, n), "PutVar": impl.PutVar(b, v, n)} {
					want := map[string]impl.Bits{"PutBits": impl.PutBits(impl.Bits{}, v, n), "PutVar": impl.PutVar(impl.Bits{}, v, n)}[name]
					if !alike(got, want) {
						t.Errorf("%s %v %d %d gives %v, not %v", name, b, v, n, got, want)
					}
				}
				checkPut(t, b, v, n)
			}
			for _, at := range []int64{-1, 0, 1, 7, 8, 1<<63 - 1} {
				if checkGet(t, b, at, n) > 0 {
					t.Errorf("%v has %d bits at %d", b, n, at)
				}
			}
		}
	}
}

// putting is a number that was put, by so many bits or by pieces of so many.
type putting struct {
	v      uint64
	n      int64
	pieces bool
}

// TestNumbersOneBehindAnother come back in their order, and the bits are as few as can be.
func TestNumbersOneBehindAnother(t *testing.T) {
	t.Parallel()
	s := sequence(64)
	for range 300 {
		var b impl.Bits
		var list []putting
		for range s.below(60) {
			p := putting{v: s.next() >> s.below(64), pieces: s.below(2) == 0}
			if p.n = int64(2 + s.below(31)); !p.pieces {
				p.n = int64(bits.Len64(p.v))
				p.n = max(1, p.n) + int64(s.below(65-int(max(1, p.n))))
			}
			list = append(list, p)
			if p.pieces {
				b = impl.PutVar(b, p.v, p.n)
			} else {
				b = impl.PutBits(b, p.v, p.n)
			}
		}
		var at int64
		for _, p := range list {
			r := impl.GetBits(b, at, p.n)
			if p.pieces {
				r = impl.GetVar(b, at, p.n)
			}
			if !r.Good || r.Word != p.v {
				t.Fatalf("%v is read back as %v", p, r)
			}
			at = r.At
		}
		if at != b.Count || !alike(b, bitsOfText(textOfBits(b))) {
			t.Fatal("the bits", b, "end at", at)
		}
	}
}

// TestBitsAreLeftAlone is promise 1 for the four functions of bits.
func TestBitsAreLeftAlone(t *testing.T) {
	s := sequence(65)
	list := unsoundBits()
	for count := range 70 {
		list = append(list, bitsOfText(drawBits(&s, count)))
	}
	for _, b := range list {
		for _, n := range []int64{-1, 0, 1, 2, 6, 9, 32, 33, 64, 65} {
			for _, v := range []uint64{0, 1, 3, 1 << 40, 1<<64 - 1} {
				checkPure(t, "PutBits", b, func(b impl.Bits) impl.Bits { return impl.PutBits(b, v, n) })
				checkPure(t, "PutVar", b, func(b impl.Bits) impl.Bits { return impl.PutVar(b, v, n) })
			}
			for _, at := range []int64{-1, 0, 3, b.Count - 1, b.Count} {
				checkPure(t, "GetBits", b, func(b impl.Bits) impl.BitResult { return impl.GetBits(b, at, n) })
				checkPure(t, "GetVar", b, func(b impl.Bits) impl.BitResult { return impl.GetVar(b, at, n) })
			}
		}
	}
}

// TestRoomBehindBits: what lies behind the bytes of an argument is neither written nor read.
func TestRoomBehindBits(t *testing.T) {
	for count := range 25 {
		full := slices.Repeat([]byte{0xa5}, 40)
		text := strings.Repeat("1", count)
		n := copy(full, bitsOfText(text).Bytes)
		b := impl.Bits{Bytes: full[:n], Count: int64(count)}
		before := slices.Clone(full)
		for _, size := range []int64{0, 1, 2, 5, 7, 8, 9, 32, 33, 64, 65} {
			for _, v := range []uint64{0, 1, 1 << 20, 1<<64 - 1} {
				checkPut(t, b, v, size)
				one, two := impl.PutBits(b, v, size), impl.PutVar(b, v, size)
				if sharesMemory(one, impl.Bits{Bytes: full}) || sharesMemory(two, impl.Bits{Bytes: full}) {
					t.Error("an answer lies in its argument's memory:", b)
				}
				// Nor do two answers of one argument lie in each other's.
				impl.PutBits(one, 1, 9)
				impl.PutVar(one, 1<<63, 9)
				if want := wantPutBits(b, v, size); !alike(one, want) {
					t.Error("an answer changes:", one, want)
				}
			}
			checkGet(t, b, max(0, int64(count)-3), size)
		}
		if !slices.Equal(full, before) {
			t.Errorf("behind %d bits the memory is %x", count, full)
		}
	}
}

// TestManyBits: the last ones of very many are put and read without going through the others.
func TestManyBits(t *testing.T) {
	b := impl.Bits{Bytes: slices.Repeat([]byte{255}, 1<<22), Count: 8 << 22}
	inTime(t, "many bits", func() {
		for at := range int64(200000) {
			if got := impl.GetBits(b, at*160, 64); got != (impl.BitResult{Good: true, Word: 1<<64 - 1, At: at*160 + 64}) {
				t.Fatalf("GetBits at %d gives %v", at*160, got)
			}
			if got := impl.GetVar(b, at*160, 2); got.Good {
				t.Fatalf("GetVar at %d gives %v", at*160, got)
			}
		}
		for range 20 {
			count := b.Count
			b = impl.PutVar(impl.PutBits(b, 1, 3), 300, 9)
			if r := impl.GetVar(b, count+3, 9); b.Count != count+21 || r.Word != 300 || r.At != b.Count {
				t.Fatal("behind", count, "bits", r)
			}
		}
	})
}
