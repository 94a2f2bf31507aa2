package tests

import (
	"math/big"
	"slices"
	"strconv"
	"strings"
	"testing"

	"loop.example/g00010/impl"
)

// folding is what a rule makes of an instruction: the operand for which it is dropped, or the other instruction; neither if it does not apply.
type folding struct {
	drop *impl.Operand
	to   *impl.Instr
}

// place is an instruction that the rules are tried at, with the places where values are defined.
type place struct {
	f    impl.Func
	list []impl.Place
	i    impl.Instr
}

func dropsFor(o impl.Operand) folding {
	return folding{drop: &o}
}

func turnsInto(i impl.Instr) folding {
	return folding{to: &i}
}

func isOneOf(op int64, list ...int64) bool {
	return slices.Contains(list, op)
}

func isArith(op int64) bool {
	return op >= impl.OpAdd && op <= impl.OpXor
}

func isCastOp(op int64) bool {
	return isOneOf(op, impl.OpZExt, impl.OpSExt, impl.OpTrunc)
}

// wantRule is the rule of this number, by the words of the document.
func (p place) wantRule(number int) folding {
	switch number {
	case 1:
		return p.ruleOfWords()
	case 2:
		return p.ruleOfPoison()
	case 3:
		return p.ruleOfOrder()
	case 4:
		return p.ruleIsX()
	case 5:
		return p.ruleIsZero()
	case 6:
		return p.ruleOfPowers()
	case 7:
		return p.ruleOfSub()
	case 8:
		return p.ruleOfChains()
	case 9:
		return p.ruleOfSelects()
	case 10:
		return p.ruleOfCompares()
	}
	return p.ruleOfCasts()
}

func (p place) isWord(n int, v *big.Int) bool {
	o := p.i.Args[n]
	return o.Kind == impl.OperandWord && bigWord(o.Word).Cmp(v) == 0
}

func (p place) ruleOfWords() folding {
	i := p.i
	if i.Op == impl.OpSelect && p.isWord(0, big.NewInt(1)) {
		return dropsFor(i.Args[1])
	}
	if i.Op == impl.OpSelect && p.isWord(0, new(big.Int)) {
		return dropsFor(i.Args[2])
	}
	for _, o := range i.Args {
		if o.Kind != impl.OperandWord {
			return folding{}
		}
	}
	var r impl.WordResult
	switch {
	case isArith(i.Op):
		r = wantArith(i.Op, i.Flags, i.Type, i.Args[0].Word, i.Args[1].Word)
	case i.Op == impl.OpCompare:
		r = good(bit(wantCompare(i.Pred, i.Args[0].Type, i.Args[0].Word, i.Args[1].Word)))
	case isCastOp(i.Op):
		r = wantCast(i.Op, i.Args[0].Type, i.Type, i.Args[0].Word)
	default:
		return folding{}
	}
	switch r.Code {
	case impl.WordUndefined:
		return folding{}
	case impl.WordPoison:
		return dropsFor(poisonArg(i.Type))
	}
	return dropsFor(wordArg(i.Type, r.Word))
}

func (p place) ruleOfPoison() folding {
	i := p.i
	if !isArith(i.Op) && !isCastOp(i.Op) && !isOneOf(i.Op, impl.OpCompare, impl.OpOffset, impl.OpSelect) {
		return folding{}
	}
	for n, o := range i.Args {
		if n > 0 && isOneOf(i.Op, impl.OpSelect, impl.OpUDiv, impl.OpSDiv, impl.OpURem, impl.OpSRem) {
			continue
		}
		if o.Kind == impl.OperandPoison {
			return dropsFor(poisonArg(i.Type))
		}
	}
	return folding{}
}

func (p place) ruleOfOrder() folding {
	i := p.i
	if !isOneOf(i.Op, impl.OpAdd, impl.OpMul, impl.OpAnd, impl.OpOr, impl.OpXor, impl.OpCompare) {
		return folding{}
	}
	x, y := i.Args[0].Kind, i.Args[1].Kind
	word := x == impl.OperandWord && y != impl.OperandWord
	null := x == impl.OperandNull && y != impl.OperandNull
	if !word && !null {
		return folding{}
	}
	swaps := map[int64]int64{impl.PredULt: impl.PredUGt, impl.PredULe: impl.PredUGe, impl.PredSLt: impl.PredSGt, impl.PredSLe: impl.PredSGe}
	for a, b := range swaps {
		if i.Pred == a {
			i.Pred = b
		} else if i.Pred == b {
			i.Pred = a
		}
	}
	i.Args = []impl.Operand{i.Args[1], i.Args[0]}
	return turnsInto(i)
}

// sameValue: both arguments are one value.
func (p place) sameValue() bool {
	return p.i.Args[0].Kind == impl.OperandValue && p.i.Args[0] == p.i.Args[1]
}

func (p place) ruleIsX() folding {
	i := p.i
	zero, one := new(big.Int), big.NewInt(1)
	var is bool
	switch i.Op {
	case impl.OpAdd, impl.OpSub, impl.OpXor, impl.OpShl, impl.OpLShr, impl.OpAShr, impl.OpOffset:
		is = p.isWord(1, zero)
	case impl.OpOr:
		is = p.isWord(1, zero) || p.sameValue()
	case impl.OpMul, impl.OpUDiv:
		is = p.isWord(1, one)
	case impl.OpSDiv:
		is = p.isWord(1, one) && i.Type != 1
	case impl.OpAnd:
		is = p.isWord(1, new(big.Int).Sub(power(i.Type), one)) || p.sameValue()
	}
	if is {
		return dropsFor(i.Args[0])
	}
	return folding{}
}

func (p place) ruleIsZero() folding {
	i := p.i
	if isOneOf(i.Op, impl.OpMul, impl.OpAnd) && p.isWord(1, new(big.Int)) ||
		isOneOf(i.Op, impl.OpSub, impl.OpXor) && p.sameValue() ||
		i.Op == impl.OpURem && p.isWord(1, big.NewInt(1)) {
		return dropsFor(wordArg(i.Type, 0))
	}
	return folding{}
}

func (p place) ruleOfPowers() folding {
	i := p.i
	if !isOneOf(i.Op, impl.OpMul, impl.OpUDiv, impl.OpURem) {
		return folding{}
	}
	for k := int64(1); k < i.Type; k++ {
		if !p.isWord(1, power(k)) {
			continue
		}
		switch i.Op {
		case impl.OpMul:
			flags := i.Flags & impl.FlagNUW
			if k < i.Type-1 {
				flags += i.Flags & impl.FlagNSW
			}
			return turnsInto(withFlags(ins(impl.OpShl, i.Type, i.Args[0], wordArg(i.Type, uint64(k))), flags))
		case impl.OpUDiv:
			return turnsInto(withFlags(ins(impl.OpLShr, i.Type, i.Args[0], wordArg(i.Type, uint64(k))), i.Flags))
		}
		return turnsInto(ins(impl.OpAnd, i.Type, i.Args[0], wordArg(i.Type, i.Args[1].Word-1)))
	}
	return folding{}
}

func (p place) ruleOfSub() folding {
	i := p.i
	if i.Op != impl.OpSub || i.Args[1].Kind != impl.OperandWord {
		return folding{}
	}
	less := new(big.Int).Neg(bigWord(i.Args[1].Word))
	return turnsInto(ins(impl.OpAdd, i.Type, i.Args[0], wordArg(i.Type, wordOf(i.Type, less))))
}

// definer is the instruction that defines an operand, if there is one.
func (p place) definer(o impl.Operand) *impl.Instr {
	if o.Kind != impl.OperandValue || p.list[o.Index].Block < 0 {
		return nil
	}
	return &p.f.Blocks[p.list[o.Index].Block].Instrs[p.list[o.Index].At]
}

// link is the instruction of this operation by a word that defines an operand, if there is one.
func (p place) link(op int64, o impl.Operand) *impl.Instr {
	i := p.definer(o)
	if i == nil || i.Op != op || i.Args[1].Kind != impl.OperandWord {
		return nil
	}
	return i
}

func (p place) ruleOfChains() folding {
	i := p.i
	if !isOneOf(i.Op, impl.OpAdd, impl.OpAnd, impl.OpOr, impl.OpXor, impl.OpOffset) || i.Args[1].Kind != impl.OperandWord {
		return folding{}
	}
	inner := p.link(i.Op, i.Args[0])
	if inner == nil {
		return folding{}
	}
	w := i.Args[1].Type
	c, d := i.Args[1].Word, inner.Args[1].Word
	if i.Op == impl.OpOffset {
		sum := new(big.Int).Add(bigSigned(w, c), bigSigned(w, d))
		if !sum.IsInt64() {
			return folding{}
		}
		c = wordOf(w, sum)
	} else {
		c = wantArith(i.Op, 0, w, c, d).Word
	}
	return turnsInto(ins(i.Op, i.Type, inner.Args[0], wordArg(w, c)))
}

func (p place) ruleOfSelects() folding {
	i := p.i
	switch {
	case i.Op != impl.OpSelect:
	case i.Args[1] == i.Args[2]:
		return dropsFor(i.Args[1])
	case i.Args[1] == wordArg(1, 1) && i.Args[2] == wordArg(1, 0):
		return dropsFor(i.Args[0])
	case i.Args[1] == wordArg(1, 0) && i.Args[2] == wordArg(1, 1):
		return turnsInto(ins(impl.OpXor, 1, i.Args[0], wordArg(1, 1)))
	}
	return folding{}
}

func (p place) ruleOfCompares() folding {
	i := p.i
	switch {
	case i.Op != impl.OpCompare:
	case p.sameValue():
		holds := isOneOf(i.Pred, impl.PredEq, impl.PredULe, impl.PredUGe, impl.PredSLe, impl.PredSGe)
		return dropsFor(wordArg(1, bit(holds)))
	case p.isWord(1, new(big.Int)) && i.Pred == impl.PredULt:
		return dropsFor(wordArg(1, 0))
	case p.isWord(1, new(big.Int)) && i.Pred == impl.PredUGe:
		return dropsFor(wordArg(1, 1))
	}
	return folding{}
}

func (p place) ruleOfCasts() folding {
	i := p.i
	if !isCastOp(i.Op) {
		return folding{}
	}
	inner := p.definer(i.Args[0])
	if inner == nil {
		return folding{}
	}
	switch [2]int64{i.Op, inner.Op} {
	case [2]int64{impl.OpZExt, impl.OpZExt}, [2]int64{impl.OpSExt, impl.OpZExt}:
		return turnsInto(ins(impl.OpZExt, i.Type, inner.Args[0]))
	case [2]int64{impl.OpSExt, impl.OpSExt}:
		return turnsInto(ins(impl.OpSExt, i.Type, inner.Args[0]))
	case [2]int64{impl.OpTrunc, impl.OpZExt}, [2]int64{impl.OpTrunc, impl.OpSExt}:
		x := inner.Args[0]
		switch {
		case i.Type == x.Type:
			return dropsFor(x)
		case i.Type < x.Type:
			return turnsInto(ins(impl.OpTrunc, i.Type, x))
		}
		return turnsInto(ins(inner.Op, i.Type, x))
	}
	return folding{}
}

// droppedFor is a function without the instruction at a place that defines a value; for itself it is dropped for poison.
func droppedFor(f impl.Func, at impl.Place, own, o impl.Operand) impl.Func {
	if o == own {
		o = poisonArg(own.Type)
	}
	list := f.Blocks[at.Block].Instrs
	f.Blocks[at.Block].Instrs = append(list[:at.At:at.At], list[at.At+1:]...)
	for _, b := range f.Blocks {
		for _, i := range b.Instrs {
			for n, arg := range i.Args {
				if arg == own {
					arg = o
				}
				if arg.Kind == impl.OperandValue && arg.Index > own.Index {
					arg.Index--
				}
				i.Args[n] = arg
			}
		}
	}
	return f
}

// wantStep is FoldOnce of a well-made function, and the number of the rule, 0 if there is none.
func wantStep(f impl.Func) (impl.Func, int) {
	to, rule, _ := wantStepBut(f, nil)
	return to, rule
}

// wantStepBut is the first step that there is but at what defines some values; it tells the rule and the value where the step is.
func wantStepBut(f impl.Func, but []int64) (to impl.Func, rule int, value int64) {
	types, places := wantValues(f)
	value = int64(len(f.Params))
	for b := range f.Blocks {
		for at, i := range f.Blocks[b].Instrs {
			if i.Type == 0 {
				continue
			}
			for rule := 1; rule <= 11 && !slices.Contains(but, value); rule++ {
				e := place{f, places, i}.wantRule(rule)
				if e.to == nil && e.drop == nil {
					continue
				}
				if e.drop != nil {
					return droppedFor(deepCopy(f), places[value], valueArg(types[value], value), *e.drop), rule, value
				}
				f.Blocks = slices.Clone(f.Blocks)
				f.Blocks[b].Instrs = slices.Clone(f.Blocks[b].Instrs)
				f.Blocks[b].Instrs[at] = deepCopy(*e.to)
				return f, rule, value
			}
			value++
		}
	}
	return f, 0, -1
}

// checkFold holds Fold, and each step on the way there, against the words of the document; it counts the rules by their numbers, and by 0 the functions that may be changed.
func checkFold(t *testing.T, f impl.Func) (impl.Func, [12]int) {
	t.Helper()
	var count [12]int
	if !wantWellMade(f) {
		if got := impl.Fold(f); !alike(got, f) {
			t.Fatalf("Fold gives\n%v of\n%v", got, f)
		}
		if got := impl.FoldOnce(f); got.Done || !alike(got.Func, f) {
			t.Fatalf("FoldOnce gives\n%v of\n%v", got, f)
		}
		return f, count
	}
	count[0]++
	now := f
	for range longWay / 4 {
		want, rule := wantStep(now)
		if got := impl.FoldOnce(now); got.Done != (rule > 0) || !alike(got.Func, want) {
			t.Fatalf("FoldOnce gives %v\n%snot, by the rule %d,\n%sof\n%s", got.Done, textOf(got.Func), rule, textOf(want), textOf(now))
		}
		if rule == 0 || alike(want, now) {
			break
		}
		count[rule]++
		now = want
	}
	got := impl.Fold(f)
	if want, told := wantFold(f); told && !alike(got, want) {
		t.Fatalf("Fold gives\n%snot\n%sof\n%s", textOf(got), textOf(want), textOf(f))
	}
	if again := impl.Fold(got); !alike(again, got) {
		t.Fatalf("folded twice it is\n%snot\n%sof\n%s", textOf(again), textOf(got), textOf(f))
	}
	return got, count
}

// textOf is the text of a function of any module.
func textOf(f impl.Func) string {
	m := impl.Module{Funcs: []impl.Func{f}}
	for n := range impl.MaxGlobals {
		m.Globals = append(m.Globals, impl.Global{Name: "global." + strconv.Itoa(n), Link: impl.LinkStrong, Size: 256})
	}
	for n := int64(1); n < impl.MaxFuncs; n++ {
		m.Funcs = append(m.Funcs, calledBy(f, n))
		m.Funcs[n].Name = "func." + strconv.FormatInt(n, 10)
	}
	_, text, _ := strings.Cut(impl.FormatModule(m), "func ")
	text, _, _ = strings.Cut(text, "}")
	return text
}
