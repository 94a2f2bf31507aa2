package tests

import (
	"math/big"
	"slices"
	"testing"

	"loop.example/g00010/impl"
)

// goesOn is the end of a run that has not come to its end.
const goesOn = -1

// piece is the byte of this number of a pointer.
type piece struct {
	of     impl.Value
	number int64
}

// teller tells a run by the words of the document: a call is a call of the test's own, and memory a map
// from object and offset to a byte, a piece of a pointer, or nothing, which is poison.
type teller struct {
	m       impl.Module
	limits  impl.Limits
	out     impl.Outcome
	depth   int64
	deepest int64 // how many functions were running at once, or would have been
	sizes   []int64
	memory  map[[2]int64]any
	fixed   map[int64]bool
	gone    map[int64]bool
	seen    map[[2]int64][]impl.Value
	wavers  bool                                                               // poison was divided by -1
	onTouch func(a *activity, pointer impl.Operand, size int64, at impl.Value) // told of each load and store, if it is not nil
}

// activity is one call of a function.
type activity struct {
	fn      int64
	f       impl.Func
	values  map[int64]impl.Value
	times   map[int64]int // how often each value was defined
	numbers map[impl.Place]int64
	own     []int64
}

var poisoned = impl.Value{Poison: true}

func plain(v uint64) impl.Value {
	return impl.Value{Word: v}
}

func wantBad(m impl.Module, entry string, args []uint64, l impl.Limits) bool {
	if l.Steps < 1 || l.Steps > 1000000 || l.Depth < 1 || l.Depth > 16 || impl.Verify(m).Code != 0 {
		return true
	}
	for _, f := range m.Funcs {
		if f.Name != entry || f.Link == impl.LinkExtern {
			continue
		}
		if len(args) != len(f.Params) {
			return true
		}
		for n, w := range f.Params {
			if !isWidth(w) || args[n]&^allOnes(w) != 0 {
				return true
			}
		}
		return false
	}
	return true
}

func tellRun(m impl.Module, entry string, args []uint64, l impl.Limits) *teller {
	return tellTouches(m, entry, args, l, nil)
}

func tellTouches(m impl.Module, entry string, args []uint64, l impl.Limits, onTouch func(a *activity, pointer impl.Operand, size int64, at impl.Value)) *teller {
	t := &teller{onTouch: onTouch, m: m, limits: l, deepest: 1, memory: map[[2]int64]any{}, fixed: map[int64]bool{}, gone: map[int64]bool{}, seen: map[[2]int64][]impl.Value{}}
	if wantBad(m, entry, args, l) {
		t.out.End = impl.EndBad
		return t
	}
	t.out.End = goesOn
	for _, g := range m.Globals {
		number := t.object(g.Size)
		t.fixed[number] = g.Fixed
		for n := range g.Size {
			t.memory[[2]int64{number, n}] = byte(0)
			if n < int64(len(g.Bytes)) {
				t.memory[[2]int64{number, n}] = g.Bytes[n]
			}
		}
	}
	var values []impl.Value
	for _, v := range args {
		values = append(values, plain(v))
	}
	fn := slices.IndexFunc(m.Funcs, func(f impl.Func) bool { return f.Name == entry })
	back := t.run(int64(fn), values)
	if t.out.End == goesOn {
		t.out.End, t.out.Value = impl.EndReturn, back
	}
	return t
}

func (t *teller) object(size int64) int64 {
	t.sizes = append(t.sizes, size)
	return int64(len(t.sizes))
}

func (t *teller) end(code int64) impl.Value {
	if t.out.End == goesOn {
		t.out.End = code
	}
	return impl.Value{}
}

func (t *teller) run(fn int64, args []impl.Value) impl.Value {
	t.depth++
	defer func() { t.depth-- }()
	a := &activity{fn: fn, f: t.m.Funcs[fn], values: map[int64]impl.Value{}, times: map[int64]int{}, numbers: map[impl.Place]int64{}}
	_, places := wantValues(a.f)
	for n, place := range places {
		if place.Block >= 0 {
			a.numbers[place] = int64(n)
		}
	}
	for n, v := range args {
		t.define(a, int64(n), v)
	}
	from, at := int64(-1), int64(0)
	for {
		next, back := t.block(a, from, at)
		if t.out.End != goesOn {
			return impl.Value{}
		}
		if next < 0 {
			for _, number := range a.own {
				t.gone[number] = true
			}
			return back
		}
		from, at = at, next
	}
}

func (t *teller) define(a *activity, value int64, v impl.Value) {
	a.values[value] = v
	a.times[value]++
	key := [2]int64{a.fn, value}
	t.seen[key] = append(t.seen[key], v)
}

// block tells the block that comes next, or -1 and what the function returns.
func (t *teller) block(a *activity, from, block int64) (int64, impl.Value) {
	taken := map[int64]impl.Value{}
	for at, i := range a.f.Blocks[block].Instrs {
		if n := slices.Index(i.Blocks, from); i.Op == impl.OpPhi {
			taken[int64(at)] = t.operand(a, i.Args[n])
		}
	}
	for at, i := range a.f.Blocks[block].Instrs {
		place := impl.Place{Block: block, At: int64(at)}
		if t.out.End != goesOn {
			break
		}
		if i.Op == impl.OpPhi {
			t.define(a, a.numbers[place], taken[int64(at)])
			continue
		}
		if t.out.Steps == t.limits.Steps {
			t.end(impl.EndSteps)
			break
		}
		t.out.Steps++
		var args []impl.Value
		for _, o := range i.Args {
			args = append(args, t.operand(a, o))
		}
		if t.out.End != goesOn {
			break
		}
		if impl.IsEnd(i.Op) {
			return t.leave(i, args)
		}
		if v := t.value(a, i, args); t.out.End == goesOn && i.Type != 0 {
			t.define(a, a.numbers[place], v)
		}
	}
	return -1, impl.Value{}
}

func (t *teller) operand(a *activity, o impl.Operand) impl.Value {
	switch o.Kind {
	case impl.OperandWord:
		return plain(o.Word)
	case impl.OperandNull:
		return impl.Value{}
	case impl.OperandValue:
		return a.values[o.Index]
	case impl.OperandGlobal:
		if t.m.Globals[o.Index].Link == impl.LinkExtern {
			return t.end(impl.EndMissing)
		}
		return impl.Value{Object: 1 + o.Index}
	}
	return poisoned
}

func (t *teller) leave(i impl.Instr, args []impl.Value) (int64, impl.Value) {
	if i.Op == impl.OpReturn && len(args) == 1 {
		return -1, args[0]
	}
	if i.Op == impl.OpReturn {
		return -1, impl.Value{}
	}
	if i.Op == impl.OpTrap {
		return -1, t.end(impl.EndTrap)
	}
	if i.Op == impl.OpJump {
		return i.Blocks[0], impl.Value{}
	}
	if args[0].Poison {
		return -1, t.end(impl.EndUndefined)
	}
	if i.Op == impl.OpBranch && args[0].Word == 1 {
		return i.Blocks[0], impl.Value{}
	}
	if i.Op == impl.OpBranch {
		return i.Blocks[1], impl.Value{}
	}
	for n, word := range i.Words {
		if word == args[0].Word {
			return i.Blocks[n+1], impl.Value{}
		}
	}
	return i.Blocks[0], impl.Value{}
}

func (t *teller) value(a *activity, i impl.Instr, args []impl.Value) impl.Value {
	switch i.Op {
	case impl.OpSelect:
		if args[0].Poison {
			return poisoned
		}
		return args[2-args[0].Word]
	case impl.OpAlloca:
		number := t.object(i.Size)
		a.own = append(a.own, number)
		return impl.Value{Object: number}
	case impl.OpLoad:
		t.touch(a, i.Args[0], i.Type, args[0])
		return t.load(i.Type, args[0])
	case impl.OpStore:
		t.touch(a, i.Args[1], i.Args[0].Type, args[1])
		return t.store(i.Args[0].Type, args[0], args[1])
	case impl.OpOffset:
		return t.offset(args[0], args[1])
	case impl.OpCall:
		t.deepest = max(t.deepest, t.depth+1)
		if t.depth+1 > t.limits.Depth {
			return t.end(impl.EndDepth)
		}
		if t.m.Funcs[i.Callee].Link == impl.LinkExtern {
			return t.end(impl.EndMissing)
		}
		return t.run(i.Callee, args)
	case impl.OpPrint:
		if len(t.out.Prints) == 1000 {
			return t.end(impl.EndPrints)
		}
		if args[0].Poison {
			return t.end(impl.EndUndefined)
		}
		t.out.Prints = append(t.out.Prints, args[0].Word)
		return impl.Value{}
	}
	return t.words(i, args)
}

// words is an operation, a cast or a compare.
func (t *teller) words(i impl.Instr, args []impl.Value) impl.Value {
	divides := i.Op >= impl.OpUDiv && i.Op <= impl.OpSRem
	if divides && (args[1] == poisoned || args[1] == plain(0)) {
		return t.end(impl.EndUndefined)
	}
	w := i.Args[0].Type
	for _, v := range args {
		if v.Poison || v.Object != 0 && t.gone[v.Object] {
			t.wavers = t.wavers || isOneOf(i.Op, impl.OpSDiv, impl.OpSRem) && args[1] == plain(allOnes(w))
			return poisoned
		}
	}
	var got impl.WordResult
	switch {
	case i.Op == impl.OpCompare && w == impl.TypePtr:
		same := args[0].Object == args[1].Object && args[0].Word == args[1].Word
		got = good(bit(same == (i.Pred == impl.PredEq)))
	case i.Op == impl.OpCompare:
		got = good(bit(wantCompare(i.Pred, w, args[0].Word, args[1].Word)))
	case i.Op > impl.OpCompare:
		got = wantCast(i.Op, w, i.Type, args[0].Word)
	default:
		got = wantArith(i.Op, i.Flags, w, args[0].Word, args[1].Word)
	}
	switch got.Code {
	case impl.WordUndefined:
		return t.end(impl.EndUndefined)
	case impl.WordPoison:
		return poisoned
	}
	return plain(got.Word)
}

func bit(yes bool) uint64 {
	if yes {
		return 1
	}
	return 0
}

func (t *teller) offset(p, by impl.Value) impl.Value {
	switch {
	case p.Poison || by.Poison:
		return poisoned
	case p.Object == 0 && by.Word == 0:
		return impl.Value{}
	case p.Object == 0:
		return poisoned
	}
	to := bigWord(p.Word)
	to.Add(to, bigSigned(64, by.Word))
	if !isIn(new(big.Int), to, big.NewInt(t.sizes[p.Object-1])) {
		return poisoned
	}
	return impl.Value{Object: p.Object, Word: to.Uint64()}
}

func bytesOf(t int64) int64 {
	if t == impl.TypePtr {
		return 8
	}
	return (t + 7) / 8
}

// isTouchable: all of the bytes of a thing of this type lie in the object.
func (t *teller) isTouchable(kind int64, p impl.Value) bool {
	return !p.Poison && p.Object != 0 && !t.gone[p.Object] && int64(p.Word)+bytesOf(kind) <= t.sizes[p.Object-1]
}

func (t *teller) touch(a *activity, pointer impl.Operand, kind int64, at impl.Value) {
	if t.onTouch != nil && t.isTouchable(kind, at) {
		t.onTouch(a, pointer, bytesOf(kind), at)
	}
}

func (t *teller) store(kind int64, v, p impl.Value) impl.Value {
	if !t.isTouchable(kind, p) || t.fixed[p.Object] {
		return t.end(impl.EndUndefined)
	}
	for n := range bytesOf(kind) {
		key := [2]int64{p.Object, int64(p.Word) + n}
		switch {
		case v.Poison:
			delete(t.memory, key)
		case kind == impl.TypePtr:
			t.memory[key] = piece{of: v, number: n}
		default:
			t.memory[key] = byte(new(big.Int).Rsh(bigWord(v.Word), uint(8*n)).Uint64())
		}
	}
	return impl.Value{}
}

func (t *teller) load(kind int64, p impl.Value) impl.Value {
	if !t.isTouchable(kind, p) {
		return t.end(impl.EndUndefined)
	}
	var first impl.Value
	sum := new(big.Int)
	for n := range bytesOf(kind) {
		switch b := t.memory[[2]int64{p.Object, int64(p.Word) + n}].(type) {
		case byte:
			if kind == impl.TypePtr {
				return poisoned
			}
			sum.Add(sum, new(big.Int).Lsh(bigWord(uint64(b)), uint(8*n)))
		case piece:
			if n == 0 {
				first = b.of
			}
			if kind != impl.TypePtr || b.of != first || b.number != n {
				return poisoned
			}
		default:
			return poisoned
		}
	}
	if kind == impl.TypePtr {
		return first
	}
	if sum.Cmp(power(kind)) >= 0 {
		return poisoned
	}
	return plain(sum.Uint64())
}

// checkRun holds Run to the teller.
func checkRun(t *testing.T, m impl.Module, entry string, args []uint64, l impl.Limits) *teller {
	t.Helper()
	want := tellRun(m, entry, args, l)
	if got := impl.Run(m, entry, args, l); !alike(got, want.out) {
		t.Fatalf("Run of %s at %v within %v gives\n%v, not\n%v:\n%s", entry, args, l, got, want.out, impl.FormatModule(m))
	}
	return want
}

// checkWatch holds Watch to what was told, at a value of a function.
func checkWatch(t *testing.T, told *teller, entry string, args []uint64, fn, value int64) int {
	t.Helper()
	want := told.seen[[2]int64{fn, value}]
	want = want[:min(len(want), 1000)]
	if got := impl.Watch(told.m, entry, args, told.limits, fn, value); !alike(got, want) {
		t.Fatalf("Watch of %d, %d in %s at %v within %v gives\n%v, not\n%v:\n%s", fn, value, entry, args, told.limits, got, want, impl.FormatModule(told.m))
	}
	return len(want)
}
