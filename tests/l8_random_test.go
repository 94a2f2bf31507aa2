package tests

import (
	"fmt"
	"math"
	"testing"

	"loop.example/g00010/impl"
)

// factWord is a word of which much follows: a power of two, one less, the width and its neighbours, or an edge.
func (s *shaper) factWord(w int64) uint64 {
	k := s.below(int(w))
	switch s.below(5) {
	case 0:
		return 1 << k
	case 1:
		return 1<<k - 1
	case 2:
		return ^uint64(1<<k-1) & allOnes(w)
	case 3:
		return uint64(w-1+int64(s.below(3))) & allOnes(w)
	}
	return s.word(w)
}

// inform puts words in the place of many arguments of operations.
func (s *shaper) inform(f *impl.Func) {
	for b := range f.Blocks {
		for at := range f.Blocks[b].Instrs {
			i := &f.Blocks[b].Instrs[at]
			if i.Op > impl.OpXor && i.Op != impl.OpSelect && i.Op != impl.OpPhi {
				continue
			}
			for n, o := range i.Args {
				often := 6
				if n == 1 && i.Op <= impl.OpXor {
					often = 2
				}
				if isWidth(o.Type) && s.below(often) == 0 {
					i.Args[n] = wordArg(o.Type, s.factWord(o.Type))
				}
				if i.Op >= impl.OpUDiv && i.Op <= impl.OpSRem && n == 1 && i.Args[n] == wordArg(o.Type, 0) {
					i.Args[n].Word = 1
				}
			}
		}
	}
}

// drawInformed is a run of a module of whose values much is known.
func drawInformed(numbers *sequence) drawn {
	d := drawRun(numbers)
	s := shaper{sequence: numbers, m: d.M}
	for at := range d.M.Funcs {
		s.inform(&d.M.Funcs[at])
	}
	return d
}

// isTold: something is known of the bits; the span is not the whole.
func (b factBook) isTold(value int64, t int64) (bits, narrow bool) {
	s, all := b.spans[value], whole(t)
	return b.bits[value] != unknown(t), s.low.Cmp(all.low) != 0 || s.high.Cmp(all.high) != 0
}

// TestFactsAreTrueOfRuns is promise 10 for bits and spans.
func TestFactsAreTrueOfRuns(t *testing.T) {
	t.Parallel()
	s := sequence(81)
	bits, spans, all := map[int64]int{}, map[int64]int{}, 0
	for range 2000 {
		d := drawInformed(&s)
		told := checkRun(t, d.M, d.Entry, d.Args, d.L)
		for fn, f := range d.M.Funcs {
			book := checkFacts(t, f)
			types, places := wantValues(f)
			for value := range book.bits {
				if types[value] == impl.TypePtr || places[value].Block < 0 {
					continue
				}
				seen := told.seen[[2]int64{int64(fn), int64(value)}]
				op := f.Blocks[places[value].Block].Instrs[places[value].At].Op
				someBits, narrow := book.isTold(int64(value), types[value])
				for _, v := range seen {
					if v.Poison {
						continue
					}
					all++
					if !book.holds(int64(value), v.Word) {
						t.Fatalf("the value %d of the function %d is %d, not of %s and %v:\n%s", value, fn, v.Word, book.bits[value], book.spans[value], impl.FormatModule(d.M))
					}
					if someBits {
						bits[op]++
					}
					if narrow {
						spans[op]++
					}
				}
			}
		}
	}
	for _, op := range []int64{impl.OpAdd, impl.OpSub, impl.OpMul, impl.OpURem, impl.OpShl, impl.OpLShr, impl.OpAShr, impl.OpAnd, impl.OpOr, impl.OpXor, impl.OpSelect, impl.OpZExt, impl.OpSExt, impl.OpTrunc, impl.OpPhi} {
		if bits[op] < 100 {
			t.Error("of the operation", op, "bits are known", bits[op], "times")
		}
	}
	for _, op := range []int64{impl.OpAdd, impl.OpSub, impl.OpMul, impl.OpUDiv, impl.OpURem, impl.OpLShr, impl.OpAnd, impl.OpOr, impl.OpXor, impl.OpSelect, impl.OpZExt, impl.OpTrunc, impl.OpPhi} {
		if spans[op] < 100 {
			t.Error("of the operation", op, "spans are known", spans[op], "times")
		}
	}
	if all < 30000 {
		t.Error(all, "values were seen")
	}
}

// eightBits are the pairs of an and and an or that make bits of a byte known; halves are from where to where spans go.
var eightBits = [][2]uint64{{255, 0}, {0, 0}, {0, 255}, {255, 1}, {254, 0}, {127, 0}, {255, 128}, {252, 2}, {90, 65}, {191, 16}, {15, 0}, {240, 0}, {248, 4}}
var eightSpans = [][2]uint64{{0, 254}, {0, 0}, {1, 1}, {255, 255}, {0, 1}, {1, 2}, {127, 128}, {128, 255}, {3, 15}, {15, 17}, {0, 16}, {2, 17}, {100, 200}}

// TestFactsAreTrueOfAllBytes: each operation of two bytes, of which so much is known, at all bytes for which that is true.
func TestFactsAreTrueOfAllBytes(t *testing.T) {
	t.Parallel()
	for op := int64(impl.OpAdd); op <= impl.OpXor; op++ {
		for _, x := range eightBits {
			for _, y := range eightBits {
				makeX := []impl.Instr{ins(impl.OpAnd, 8, valueArg(8, 0), wordArg(8, x[0])), ins(impl.OpOr, 8, valueArg(8, 2), wordArg(8, x[1]))}
				makeY := []impl.Instr{ins(impl.OpAnd, 8, valueArg(8, 1), wordArg(8, y[0])), ins(impl.OpOr, 8, valueArg(8, 4), wordArg(8, y[1]))}
				checkBytes(t, op, append(makeX, makeY...))
			}
		}
		for _, x := range eightSpans {
			for _, y := range eightSpans {
				makeX := []impl.Instr{ins(impl.OpURem, 8, valueArg(8, 0), wordArg(8, x[1]-x[0]+1)), ins(impl.OpAdd, 8, valueArg(8, 2), wordArg(8, x[0]))}
				makeY := []impl.Instr{ins(impl.OpURem, 8, valueArg(8, 1), wordArg(8, y[1]-y[0]+1)), ins(impl.OpAdd, 8, valueArg(8, 4), wordArg(8, y[0]))}
				checkBytes(t, op, append(makeX, makeY...))
			}
		}
	}
}

// checkBytes puts the operation behind two instructions each that make its arguments, the values 3 and 5, of the parameters.
func checkBytes(t *testing.T, op int64, list []impl.Instr) {
	t.Helper()
	f := function("f", 0, block(append(list, ins(op, 8, valueArg(8, 3), valueArg(8, 5)), ret())...))
	f.Params = []int64{8, 8}
	book := tellFacts(f)
	bits, spans := impl.KnownBits(f), impl.Spans(f)
	if len(bits) != 7 || len(spans) != 7 {
		t.Fatal("there are", len(bits), "and", len(spans), "entries")
	}
	fits := func(value int, v uint64) bool {
		return v&bits[value].Zero == 0 && ^v&bits[value].One == 0 && spans[value].Low <= v && v <= spans[value].High
	}
	var xs, ys []uint64
	for v := range uint64(256) {
		if book.holds(3, v) {
			xs = append(xs, v)
		}
		if book.holds(5, v) {
			ys = append(ys, v)
		}
	}
	if len(xs) == 0 || len(ys) == 0 {
		t.Fatal("no bytes are left", list)
	}
	for _, x := range xs {
		for _, y := range ys {
			if r := impl.Arith(op, 0, 8, x, y); r.Code == impl.WordOK && !fits(6, r.Word) || !fits(3, x) || !fits(5, y) {
				t.Fatalf("the operation %d makes %d of %d and %d, not of %v, %v", op, r.Word, x, y, bits, spans)
			}
		}
	}
}

// made are the values of which a pointer is made, by offsets.
func made(f impl.Func, o impl.Operand) []int64 {
	var list []int64
	for o.Kind == impl.OperandValue {
		list = append(list, o.Index)
		i := definer(f, o)
		if i == nil || i.Op != impl.OpOffset {
			break
		}
		o = i.Args[0]
	}
	return list
}

// touched is a load or a store of an activity, and how often each value had been defined then.
type touched struct {
	o     impl.Operand
	size  int64
	at    impl.Value
	times map[int64]int
}

// toucher holds each two touches of one activity against what Alias says.
type toucher struct {
	t     *testing.T
	m     impl.Module
	done  map[*activity][]touched
	said  map[string]int64
	count map[int64]int
	close int
}

func newToucher(t *testing.T) *toucher {
	return &toucher{t: t, count: map[int64]int{}}
}

func (c *toucher) run(d drawn) *teller {
	c.m, c.done, c.said = d.M, map[*activity][]touched{}, map[string]int64{}
	return tellTouches(d.M, d.Entry, d.Args, d.L, c.touch)
}

func (c *toucher) touch(a *activity, o impl.Operand, size int64, at impl.Value) {
	now := touched{o, size, at, map[int64]int{}}
	for value, count := range a.times {
		now.times[value] = count
	}
	list := c.done[a]
	for _, before := range list[max(0, len(list)-12):] {
		if isUndisturbed(a.f, before, now) {
			c.compare(a, before, now)
		}
	}
	c.compare(a, now, now)
	c.done[a] = append(list, now)
}

// isUndisturbed: no value of which the pointers are made was defined anew between; to be defined the first time is not anew.
func isUndisturbed(f impl.Func, x, y touched) bool {
	for _, value := range append(made(f, x.o), made(f, y.o)...) {
		if x.times[value] > 0 && y.times[value] != x.times[value] || y.times[value] > 1 && x.times[value] == 0 {
			return false
		}
	}
	return true
}

func (c *toucher) compare(a *activity, x, y touched) {
	key := fmt.Sprint(a.fn, x.o, x.size, y.o, y.size)
	said, known := c.said[key]
	if !known {
		said = checkAlias(c.t, a.f, x.o, x.size, y.o, y.size)
		c.said[key] = said
	}
	c.count[said]++
	apart := x.at.Object != y.at.Object || x.at.Word+uint64(x.size) <= y.at.Word || y.at.Word+uint64(y.size) <= x.at.Word
	same := x.at == y.at && x.size == y.size
	if said == impl.AliasNone && !apart || said == impl.AliasMust && !same {
		c.t.Fatalf("in the function %d %v touches %d bytes at %v, and %v %d at %v, and Alias says %d:\n%s", a.fn, x.o, x.size, x.at, y.o, y.size, y.at, said, impl.FormatModule(c.m))
	}
	if said == impl.AliasMay && !apart {
		c.close++
	}
}

// TestAliasIsTrueOfRuns is promise 10 for the bytes that are touched, in runs of modules of every kind.
func TestAliasIsTrueOfRuns(t *testing.T) {
	t.Parallel()
	s := sequence(82)
	c := newToucher(t)
	for range 2000 {
		c.run(drawRun(&s))
	}
	if c.count[impl.AliasNone] < 10000 || c.count[impl.AliasMust] < 50000 || c.count[impl.AliasMay] < 1000 || c.close < 1000 {
		t.Error("Alias said", c.count, "and may be and is", c.close)
	}
}

// drawTouches is a function that goes round a loop, with pointers of two parameters, globals and allocas, some of which are the same.
func drawTouches(numbers *sequence) drawn {
	s := shaper{sequence: numbers}
	f := function("touch", 0, block(), block(), block(ret()))
	f.Params = []int64{impl.TypePtr, impl.TypePtr, 64}
	list := []impl.Operand{valueArg(impl.TypePtr, 0), valueArg(impl.TypePtr, 1), globalArg(0), globalArg(1)}
	next := int64(3)
	put := func(b int, i impl.Instr) {
		f.Blocks[b].Instrs = append(f.Blocks[b].Instrs, i)
		if i.Type != 0 {
			if i.Type == impl.TypePtr {
				list = append(list, valueArg(impl.TypePtr, next))
			}
			next++
		}
	}
	some := func(b, count int) {
		for range count {
			p := list[s.below(len(list))]
			switch s.below(5) {
			case 0, 1:
				put(b, ins(impl.OpOffset, impl.TypePtr, p, wordArg(64, uint64(s.below(13)-4))))
			case 2:
				put(b, ins(impl.OpLoad, s.oneOf(8, 16, 32, 64), p))
			case 3:
				w := s.oneOf(1, 8, 16, 32, 64)
				put(b, ins(impl.OpStore, 0, wordArg(w, s.word(w)), p))
			default:
				put(b, ins(impl.OpOffset, impl.TypePtr, p, valueArg(64, 2)))
			}
		}
	}
	put(0, alloca(64))
	put(0, alloca(64))
	some(0, 2+s.below(6))
	put(0, jump(1))
	outside := len(list)
	again := next
	put(1, phi(64, []int64{0, 1}, wordArg(64, 0), valueArg(64, 0)))
	put(1, phi(impl.TypePtr, []int64{0, 1}, list[s.below(outside)], nullArg()))
	some(1, 4+s.below(20))
	f.Blocks[1].Instrs[1].Args[1] = list[s.below(len(list))]
	put(1, ins(impl.OpAdd, 64, valueArg(64, again), wordArg(64, 1)))
	f.Blocks[1].Instrs[0].Args[1] = valueArg(64, next-1)
	put(1, compare(impl.PredULt, valueArg(64, next-1), wordArg(64, 3)))
	put(1, branch(valueArg(1, next-1), 1, 2))
	main := function("main", 0, block(
		ins(impl.OpOffset, impl.TypePtr, globalArg(0), wordArg(64, 24)), ins(impl.OpOffset, impl.TypePtr, globalArg(int64(s.below(2))), wordArg(64, 20+uint64(s.below(9)))),
		call(0, 0, valueArg(impl.TypePtr, 0), valueArg(impl.TypePtr, 1), wordArg(64, uint64(s.below(5)))), ret()))
	m := ofFuncs(f, main)
	m.Globals = []impl.Global{{Name: "g", Link: impl.LinkStrong, Size: 64}, {Name: "h", Link: impl.LinkLocal, Size: 64}}
	return drawn{m, "main", nil, impl.Limits{Steps: 200, Depth: 2}}
}

// TestAliasIsTrueOfOnePlace: the same with pointers that come close to each other.
func TestAliasIsTrueOfOnePlace(t *testing.T) {
	t.Parallel()
	s := sequence(83)
	c := newToucher(t)
	ends := map[int64]int{}
	for range 1000 {
		d := drawTouches(&s)
		if fault := impl.Verify(d.M); fault.Code != 0 {
			t.Fatalf("the test's module has the fault %v:\n%s", fault, impl.FormatModule(d.M))
		}
		ends[c.run(d).out.End]++
	}
	if c.count[impl.AliasNone] < 8000 || c.count[impl.AliasMust] < 10000 || c.count[impl.AliasMay] < 20000 || c.close < 4000 || ends[impl.EndReturn] < 100 {
		t.Error("Alias said", c.count, "and may be and is", c.close, "and the ends", ends)
	}
}

// TestFactsOfManyFunctions holds the facts and aliases of functions of every kind against the words of the document, such as are not well-made too.
func TestFactsOfManyFunctions(t *testing.T) {
	t.Parallel()
	s := sequence(84)
	sound, others := 0, 0
	for n := range 4000 {
		m := soundModule(&s)
		shape := shaper{sequence: &s, m: m}
		for at := range m.Funcs {
			shape.inform(&m.Funcs[at])
		}
		for range n % 3 {
			bendModule(&s, &m)
		}
		if n%5 == 0 {
			turnSomething(&s, &m)
		}
		for _, f := range m.Funcs {
			if len(checkFacts(t, f).bits) > 0 {
				sound++
			} else if f.Link != impl.LinkExtern {
				others++
			}
			for range 6 {
				a, b := s.anyPointer(f), s.anyPointer(f)
				checkAlias(t, f, a, s.anySize(), b, s.anySize())
			}
		}
	}
	if sound < 3000 || others < 500 {
		t.Error(sound, "are well-made", others, "are not")
	}
}

// anyPointer is mostly a value of a function that is a pointer, or a global.
func (s *sequence) anyPointer(f impl.Func) impl.Operand {
	types, _ := wantValues(f)
	o := impl.Operand{Kind: impl.OperandValue, Type: impl.TypePtr, Index: int64(s.below(len(types) + 2))}
	for range 8 {
		if o.Index < int64(len(types)) && types[o.Index] != impl.TypePtr {
			o.Index = int64(s.below(len(types)))
		}
	}
	switch s.below(12) {
	case 0:
		o.Kind = int64(s.below(7))
	case 1:
		o.Type = s.pickNumber()
	case 2:
		o.Index = s.pickNumber()
	case 3, 4:
		o = globalArg(int64(s.below(3)))
	}
	return o
}

func (s *sequence) anySize() int64 {
	if s.below(8) == 0 {
		return []int64{math.MinInt64, -1, 0, 100, math.MaxInt64}[s.below(5)]
	}
	return 1 << s.below(4)
}

// TestFactsLeaveFunctionsAlone is promise 1 for the functions of this chapter.
func TestFactsLeaveFunctionsAlone(t *testing.T) {
	t.Parallel()
	s := sequence(85)
	for n := range 400 {
		m := drawInformed(&s).M
		if n%3 == 0 {
			turnSomething(&s, &m)
		}
		if n%5 == 0 {
			m.Funcs = append(m.Funcs, drawOddFunc(&s))
		}
		for _, f := range m.Funcs {
			f.Params = append(make([]int64, 0, 12), f.Params...)
			checkPure(t, "KnownBits", f, impl.KnownBits)
			checkPure(t, "Spans", f, impl.Spans)
			a, b, size := s.anyPointer(f), s.anyPointer(f), s.anySize()
			checkPure(t, "Alias", f, func(f impl.Func) int64 { return impl.Alias(f, a, size, b, 4) })
		}
	}
}
