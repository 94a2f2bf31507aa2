package tests

import (
	"bytes"
	"slices"
	"strings"
	"testing"

	"loop.example/g00010/impl"
)

// byHand is a text of bits written with blanks between its fields.
func byHand(fields ...string) string {
	return strings.ReplaceAll(strings.Join(fields, ""), " ", "")
}

// checkPacked holds a module in the right shape to promise 5, and answers its bytes.
func checkPacked(t *testing.T, m impl.Module) []byte {
	t.Helper()
	got, want := impl.Pack(m), wantPack(m)
	if !bytes.Equal(got, want) {
		t.Fatalf("Pack gives %x, not %x, of\n%.3000s", got, want, impl.FormatModule(m))
	}
	if r := impl.Unpack(got); !r.Good || !alike(r.Module, m) {
		t.Fatalf("Unpack gives %v of\n%.3000s", r.Good, impl.FormatModule(m))
	}
	return got
}

// checkUnpack holds what is read of bytes against the other reader.
func checkUnpack(t *testing.T, b []byte) bool {
	t.Helper()
	got, want := impl.Unpack(b), wantUnpack(b)
	if got.Good != want.Good || !alike(got.Module, want.Module) {
		t.Fatalf("Unpack gives %v, not %v, of %x", got, want, b)
	}
	if got.Good && !bytes.Equal(impl.Pack(got.Module), b) {
		t.Fatalf("what was read is packed as %x, not %x", impl.Pack(got.Module), b)
	}
	return got.Good
}

// smallModule has a global and two functions.
func smallModule() impl.Module {
	f := impl.Func{Name: "f", Link: impl.LinkLocal, Params: []int64{8}, Result: 8, Blocks: []impl.Block{block(
		withFlags(ins(impl.OpAdd, 8, valueArg(8, 0), wordArg(8, 255)), impl.FlagNUW), ret(valueArg(8, 1)))}}
	return impl.Module{
		Globals: []impl.Global{{Name: "g", Link: impl.LinkWeak, Fixed: true, Size: 3, Bytes: []byte{0x81}}},
		Funcs:   []impl.Func{{Name: "e", Params: []int64{impl.TypePtr, 1}}, f},
	}
}

func TestPackByHand(t *testing.T) {
	text := byHand(
		"100000",                                  // one global
		"100000 11100110 01 1 110000",             // its name, weak, fixed, its size
		"100000 10000001",                         // its bytes
		"010000",                                  // two functions
		"100000 10100110 00 010 011 100 000",      // the name, extern, two parameters, no result
		"000000",                                  // no blocks
		"100000 01100110 11 100 010 010",          // the name, local, a parameter, a result
		"100000 010000",                           // a block of two instructions
		"10000 010 010000",                        // an add of two
		"001 010 000000", "100 010 111111110 010", // the value 0, the word 255, its flags
		"01111 000 100000", "001 010 100000 000000", // a return of the value 1; the bits behind
	)
	b := checkPacked(t, smallModule())
	if got := textOfBits(impl.Bits{Bytes: b, Count: 8 * int64(len(b))}); got != text[:len(text)/8*8] || strings.Contains(text[len(text)/8*8:], "1") {
		t.Errorf("Pack gives\n%s, not\n%s", got, text)
	}
}

// TestPackNothing: a module of nothing has two bytes, unlike its text.
func TestPackNothing(t *testing.T) {
	for _, m := range []impl.Module{{}, {Globals: []impl.Global{}, Funcs: []impl.Func{}}} {
		if got := checkPacked(t, m); !bytes.Equal(got, []byte{0, 0}) {
			t.Errorf("a module of nothing is packed as %x", got)
		}
	}
	for _, b := range [][]byte{nil, {}, {0}, {0, 0, 0}, {0, 0, 0, 0}, {0, 16}, {0, 32}, {0, 64}, {0, 128}, {1, 0}, {64, 0}, {32, 0, 0}, {0, 8, 0}, {32, 32, 0}, {255, 255}, make([]byte, 1000)} {
		if got := impl.Unpack(b); !alike(got, impl.ReadResult{}) {
			t.Errorf("Unpack takes %x", b)
		}
		checkUnpack(t, b)
	}
}

// packedAlone is the bits of an instruction in a module, cut out of what stands around it.
func packedAlone(t *testing.T, i impl.Instr) string {
	t.Helper()
	m := impl.Module{Globals: fullModule().Globals, Funcs: []impl.Func{{Name: "f", Link: impl.LinkLocal, Params: []int64{64, impl.TypePtr}}}}
	head := strings.TrimSuffix(packedText(m), "000000") + byHand("010000 010000")
	list, tail := block(i, trap()), byHand("11111 000 000000")
	if impl.IsEnd(i.Op) {
		list, tail = block(i), ""
		head = strings.TrimSuffix(head, "010000") + "100000"
	}
	tail += byHand("100000 11111 000 000000")
	m.Funcs[0].Blocks = []impl.Block{list, block(trap())}
	b := checkPacked(t, m)
	text := textOfBits(impl.Bits{Bytes: b, Count: 8 * int64(len(b))})
	from, to := len(head), strings.LastIndex(text, tail)
	if !strings.HasPrefix(text, head) || to < from || len(text)-to-len(tail) > 7 {
		t.Fatal("an instruction stands in", text)
	}
	return text[from:to]
}

func TestPackEachKind(t *testing.T) {
	n, p, all := valueArg(64, 0), valueArg(impl.TypePtr, 1), strings.Repeat("1", 9)
	for fields, i := range map[string]impl.Instr{
		"10000 101 010000 001 101 000000 100 101 100000000 000":                                              ins(impl.OpAdd, 64, n, wordArg(64, 1)),
		"01000 010 010000 110 010 100 010 000000000 100":                                                     withFlags(ins(impl.OpSub, 8, poisonArg(8), wordArg(8, 0)), impl.FlagNSW),
		"00010 101 010000 001 101 010000 001 101 010000 110":                                                 withFlags(ins(impl.OpShl, 64, valueArg(64, 2), valueArg(64, 2)), 3),
		"10010 001 010000 110 001 100 001" + strings.Repeat(all, 3) + "111111110 001":                        withFlags(ins(impl.OpLShr, 32, poisonArg(32), wordArg(32, 1<<32-1)), impl.FlagExact),
		"01100 100 010000 100 100 100000000 100 100 000000000 000":                                           ins(impl.OpURem, 1, wordArg(1, 1), wordArg(1, 0)),
		"10110 110 010000 110 110 100 110 000000001 000000010 000":                                           ins(impl.OpXor, 16, poisonArg(16), wordArg(16, 1<<15)),
		"11100 001 010000 110 001 110 001 000":                                                               ins(impl.OpSRem, 32, poisonArg(32), poisonArg(32)),
		"01110 100 010000 100 010 001000000 110 010 0101":                                                    compare(impl.PredSGe, wordArg(8, 4), poisonArg(8)),
		"01110 100 010000 010 011 101 011 110000 1000":                                                       compare(impl.PredEq, nullArg(), globalArg(3)),
		"11110 011 110000 110 100 001 011 100000 101 011 010000":                                             ins(impl.OpSelect, impl.TypePtr, poisonArg(1), p, globalArg(2)),
		"00001 101 100000 100 100 100000000":                                                                 ins(impl.OpZExt, 64, wordArg(1, 1)),
		"10001 101 100000 110 001":                                                                           ins(impl.OpSExt, 64, poisonArg(32)),
		"01001 001 100000 001 101 000000":                                                                    ins(impl.OpTrunc, 32, n),
		"00101 101 010000 001 101 000000 100 101 111000000 010000 000000 100000":                             phi(64, []int64{0, 1}, n, wordArg(64, 7)),
		"10101 011 000000 000001 000100":                                                                     alloca(256),
		"10101 011 000000 100000":                                                                            alloca(1),
		"01101 110 100000 010 011":                                                                           ins(impl.OpLoad, 16, nullArg()),
		"11101 000 010000 110 010 101 011 100000":                                                            ins(impl.OpStore, 0, poisonArg(8), globalArg(1)),
		"00011 011 010000 001 011 100000 100 101 100000000":                                                  ins(impl.OpOffset, impl.TypePtr, p, wordArg(64, 1)),
		"10011 000 010000 001 101 000000 010 011 000000":                                                     call(0, 0, n, nullArg()),
		"01011 000 100000 001 101 000000":                                                                    ins(impl.OpPrint, 0, n),
		"11011 000 000000 100000 100000":                                                                     jump(1),
		"00111 000 100000 100 100 100000000 010000 000000 100000":                                            branch(wordArg(1, 1), 0, 1),
		"10111 000 100000 001 101 000000 100000 100000 000000":                                               switchOn(n, nil, 1),
		"10111 000 100000 001 101 000000 010000 100000 000000 100000" + strings.Repeat(all, 7) + "111111110": switchOn(n, []uint64{1<<64 - 1}, 1, 0),
		"10111 000 100000 110 010 110000 100000 100000 000000 010000 001000000 111111110":                    switchOn(poisonArg(8), []uint64{4, 255}, 1, 1, 0),
		"01111 000 000000": ret(),
		"11111 000 000000": trap(),
	} {
		if got, want := packedAlone(t, i), byHand(fields); got != want {
			t.Errorf("%v is packed as %s, not %s", i, got, want)
		}
	}
}

// TestPackReturns: of each type.
func TestPackReturns(t *testing.T) {
	for n, typ := range typeCodes[1:] {
		code := []string{"100", "010", "110", "001", "101", "011"}[n]
		text := byHand("000000 100000", "100000 01100110 10 000", code, "100000 100000", "01111 000 100000 110", code)
		b := checkPacked(t, ofFuncs(function("f", typ, block(ret(poisonArg(typ))))))
		if !bytes.Equal(b, bitsOfText(text).Bytes) {
			t.Errorf("a return of the type %d is packed as %x", typ, b)
		}
	}
}

// TestPackGlobals: of each link and size, with bytes and without; names of each length and with each sign.
func TestPackGlobals(t *testing.T) {
	every := make([]byte, 256)
	for n := range every {
		every[n] = byte(n)
	}
	for link := range int64(4) {
		for _, size := range []int64{1, 31, 32, 33, 255, 256} {
			for _, list := range [][]byte{nil, {0}, {255, 0}, every[:31], every[:32], every} {
				if int64(len(list)) > size || link == impl.LinkExtern && len(list) > 0 {
					continue
				}
				for _, fixed := range []bool{false, true} {
					checkPacked(t, ofGlobals(impl.Global{Name: "g", Link: link, Fixed: fixed, Size: size, Bytes: list}))
				}
			}
		}
	}
	for _, name := range namesToDraw {
		for length := range len(name) {
			checkPacked(t, ofGlobals(impl.Global{Name: name[:length+1], Size: 1}))
			checkPacked(t, ofFuncs(impl.Func{Name: name[:length+1]}))
		}
	}
}

func TestPackWholeModules(t *testing.T) {
	for _, m := range []impl.Module{
		fullModule(), exampleModule(), ofFuncs(sumFunc()), ofFuncs(longFunc(256), wideFunc(40), frameFunc(256, 255, 1)),
		ofGlobals(fullModule().Globals...), ofFuncs(fullModule().Funcs[:2]...), manyLines(impl.MaxFuncs, impl.MaxInstrs-1), manyLines(1, 1),
	} {
		checkPacked(t, m)
		checkPure(t, "Pack", m, impl.Pack)
		checkPure(t, "Unpack", impl.Pack(m), impl.Unpack)
	}
	m := fullModule()
	setCases(&m, impl.MaxCases)
	checkPacked(t, m)
}

// TestPackWrongShapes takes a module of each fault: the bits that it would have are no module's.
func TestPackWrongShapes(t *testing.T) {
	for code, m := range wrongShapes(t) {
		if got := impl.Pack(m); (len(got) == 0) != (code > 0) {
			t.Errorf("a module with the fault %d is packed as %x", code, got)
		}
		if checkUnpack(t, bitsOfText(packedText(m)).Bytes) != (code == 0) {
			t.Error("a module with the fault", code, "is read")
		}
	}
	// What Verify alone refuses is packed.
	loop := ofFuncs(function("loop", 0, block(jump(0))))
	if impl.Verify(loop).Code == 0 {
		t.Error("the test's module is well-made")
	}
	checkPacked(t, loop)
}

// TestEachBitTurned: one bit of the bytes of a module is another one.
func TestEachBitTurned(t *testing.T) {
	t.Parallel()
	goods, count := 0, 0
	for _, m := range []impl.Module{{}, smallModule(), exampleModule(), fullModule()} {
		b := checkPacked(t, m)
		for at := range 8 * len(b) {
			b[at/8] ^= 1 << (at % 8)
			count++
			if checkUnpack(t, b) {
				goods++
			}
			b[at/8] ^= 1 << (at % 8)
		}
	}
	if goods < 300 || goods > count/2 {
		t.Error(goods, "of", count, "are a module's")
	}
}

// TestBytesTooFewAndTooMany, and bits behind the last one that are not 0.
func TestBytesTooFewAndTooMany(t *testing.T) {
	t.Parallel()
	left := map[int]int{}
	s := sequence(66)
	list := []impl.Module{{}, smallModule(), exampleModule(), fullModule()}
	for range 60 {
		list = append(list, shapedModule(&s))
	}
	for _, m := range list {
		b := checkPacked(t, m)
		for length := range b {
			if len(b) > 3000 {
				break
			}
			if got := impl.Unpack(b[:length]); !alike(got, impl.ReadResult{}) {
				t.Fatalf("the first %d of %d bytes are read", length, len(b))
			}
		}
		for _, more := range [][]byte{{0}, {1}, {128}, {255}, {0, 0}, {0, 0, 0, 0, 0, 0, 0, 0}, b} {
			if impl.Unpack(append(slices.Clone(b), more...)).Good || impl.Unpack(append(slices.Clone(more), b...)).Good {
				t.Fatalf("with %x bytes are read", more)
			}
		}
		unused := 8*len(b) - len(packedText(m))
		left[unused]++
		for k := range unused {
			b[len(b)-1] ^= 128 >> k
			if impl.Unpack(b).Good {
				t.Fatal("a bit behind the last one is 1, and the module is read")
			}
			b[len(b)-1] ^= 128 >> k
		}
	}
	for unused := range 8 {
		if left[unused] == 0 {
			t.Error("no module leaves", unused, "bits", left)
		}
	}
}

// bentNumbers are the bytes of a module for each of its numbers in pieces, with other bits for that one.
func bentNumbers(m impl.Module, other func(v uint64, n int64) string) [][]byte {
	var out [][]byte
	for one := 0; ; one++ {
		var p packer
		p.bend = func(at int, v uint64, n int64) (string, bool) {
			if at == one {
				return other(v, n), true
			}
			return "", false
		}
		if p.module(m); p.numbers <= one {
			return out
		}
		out = append(out, bitsOfText(p.String()).Bytes)
	}
}

// TestNeedlessPieces: each number of a module in turn has more pieces than needed.
func TestNeedlessPieces(t *testing.T) {
	t.Parallel()
	for _, m := range []impl.Module{{}, smallModule(), exampleModule(), fullModule()} {
		for _, more := range []int{1, 2, 7, 12, 13, 30} {
			list := bentNumbers(m, func(v uint64, n int64) string { return pieces(v, n, more) })
			for at, b := range list {
				if got := impl.Unpack(b); !alike(got, impl.ReadResult{}) {
					t.Fatalf("the number %d of %d has %d pieces too many, and is read", at, len(list), more)
				}
			}
		}
	}
}

// TestGreatNumbers: each number of a module in turn is far greater than it may be, or than what there is.
func TestGreatNumbers(t *testing.T) {
	t.Parallel()
	goods := 0
	for _, m := range []impl.Module{{}, smallModule(), exampleModule(), fullModule()} {
		for _, great := range []uint64{25, 257, 1 << 20, 1 << 31, 1<<32 - 1, 1 << 32, 1 << 62, 1<<63 - 1, 1 << 63, 1<<64 - 1} {
			for _, b := range bentNumbers(m, func(v uint64, n int64) string { return pieces(great+v, n, 0) }) {
				if checkUnpack(t, b) {
					goods++
				}
			}
			// Behind it there is not what it tells of, but as much as one can read.
			for _, b := range bentNumbers(m, func(v uint64, n int64) string { return pieces(great, n, 0) }) {
				checkUnpack(t, append(b, make([]byte, 100)...))
			}
		}
	}
	// Only words may be as great as that, and offsets of pointers are some.
	if goods == 0 || goods > 300 {
		t.Error(goods, "modules are read")
	}
	// What does not fit 64 bits is no number, though the bits that fit may be right.
	for _, b := range bentNumbers(fullModule(), func(v uint64, n int64) string {
		text := pieces(v|1<<63, n, 0)
		over := []byte(pieces(v, n, len(text)/int(n)-len(pieces(v, n, 0))/int(n)))
		over[len(over)-2] = '1'
		return string(over)
	}) {
		checkUnpack(t, b)
	}
}

// TestCountsCostNothing: memory is made of what is there, and not of what is told to be there.
func TestCountsCostNothing(t *testing.T) {
	for _, great := range []uint64{1 << 24, 1 << 40, 1 << 62, 1 << 63, 1<<64 - 1} {
		for _, head := range []string{
			"", "100000", "000000", "000000 100000", "000000 100000 100000 01100110 10 000 000", "000000 100000 100000 01100110 10 000 000 100000",
			"000000 100000 100000 01100110 10 000 000 100000 100000 00101 101", "000000 100000 100000 01100110 10 000 000 100000 100000 11011 000 000000", "100000 100000 01100110 10 0 100000",
			"000000 100000 100000 01100110 10 000 000 100000 100000 10111 000 000000 000000",
		} {
			for _, tail := range []string{"", strings.Repeat("0", 1000), strings.Repeat("100000", 200)} {
				b := bitsOfText(byHand(head) + pieces(great, 6, 0) + tail).Bytes
				var got impl.ReadResult
				if taken := memoryOf(func() { got = impl.Unpack(b) }); taken > 1<<20 {
					t.Errorf("a count of %d behind %q takes %d bytes", great, head, taken)
				}
				if !alike(got, impl.ReadResult{}) {
					t.Errorf("a count of %d behind %q is read", great, head)
				}
				checkUnpack(t, b)
			}
		}
	}
}

// TestLongPhis: of these a module may have as many arguments as it likes.
func TestLongPhis(t *testing.T) {
	t.Parallel()
	const count = 30000
	f := function("long", 0, block(phi(64, make([]int64, count), slices.Repeat([]impl.Operand{wordArg(64, 1<<64-1)}, count)...), trap()))
	inTime(t, "a long phi", func() {
		b := checkPacked(t, ofFuncs(f))
		if impl.Unpack(b[:len(b)-1]).Good || impl.Unpack(append(b, 0)).Good {
			t.Error("a long phi with other bytes is read")
		}
	})
}
