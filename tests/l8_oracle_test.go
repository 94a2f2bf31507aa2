package tests

import (
	"math/big"
	"strconv"
	"strings"
	"testing"

	"loop.example/g00010/impl"
)

// wantWellMade tries a function at each place among eleven others, which are as it calls them.
func wantWellMade(f impl.Func) bool {
	first := "x"
	if strings.HasPrefix(f.Name, first) {
		first = "y"
	}
	for place := range impl.MaxFuncs {
		var m impl.Module
		for n := range impl.MaxGlobals {
			m.Globals = append(m.Globals, impl.Global{Name: first + "." + strconv.Itoa(n), Link: impl.LinkLocal, Size: 256})
		}
		for n := range impl.MaxFuncs {
			m.Funcs = append(m.Funcs, calledBy(f, int64(n)))
			m.Funcs[n].Name = first + "$" + strconv.Itoa(n)
		}
		m.Funcs[place] = f
		if f.Link != impl.LinkExtern && wantVerify(m).Code == 0 {
			return true
		}
	}
	return false
}

// calledBy is a function as the first call of this number has it.
func calledBy(f impl.Func, number int64) impl.Func {
	other := impl.Func{Link: impl.LinkWeak, Blocks: []impl.Block{block(trap())}}
	for _, b := range f.Blocks {
		for _, i := range b.Instrs {
			if i.Op == impl.OpCall && i.Callee == number {
				for _, o := range i.Args {
					other.Params = append(other.Params, o.Type)
				}
				other.Result = i.Type
				return other
			}
		}
	}
	return other
}

// factBook has the facts of all values: their bits, the lowest first, 0 or 1 or ? each, and from where to where they go.
type factBook struct {
	f     impl.Func
	bits  []string
	spans []span
}

type span struct {
	low, high *big.Int
}

func unknown(t int64) string {
	if !isWidth(t) {
		return ""
	}
	return strings.Repeat("?", int(t))
}

func whole(t int64) span {
	if !isWidth(t) {
		return span{new(big.Int), new(big.Int)}
	}
	return span{new(big.Int), bigWord(allOnes(t))}
}

// tellFacts goes through the blocks that can be come to; of what it has not gone through it has no facts.
func tellFacts(f impl.Func) factBook {
	b := factBook{f: f}
	if !wantWellMade(f) {
		return b
	}
	types, places := wantValues(f)
	numbers := map[impl.Place]int{}
	for n, place := range places {
		numbers[place] = n
		b.bits, b.spans = append(b.bits, unknown(types[n])), append(b.spans, whole(types[n]))
	}
	for _, at := range tableOf(f).order() {
		for n, i := range f.Blocks[at].Instrs {
			if i.Type == 0 {
				continue
			}
			value := numbers[impl.Place{Block: at, At: int64(n)}]
			bits, spans := b.wantBits(i), b.wantSpan(i)
			b.bits[value], b.spans[value] = bits, spans
		}
	}
	return b
}

func (b factBook) bitsOf(o impl.Operand) string {
	switch o.Kind {
	case impl.OperandWord:
		return binary(bigWord(o.Word), int(o.Type))
	case impl.OperandValue:
		return b.bits[o.Index]
	}
	return unknown(o.Type)
}

func (b factBook) spanOf(o impl.Operand) span {
	switch o.Kind {
	case impl.OperandWord:
		return span{bigWord(o.Word), bigWord(o.Word)}
	case impl.OperandValue:
		return b.spans[o.Index]
	}
	return whole(o.Type)
}

// bitwise makes each bit of the bits at its place, by a row for each pair: 00 01 0? 10 11 1? ?0 ?1 ??.
func bitwise(x, y, row string) string {
	var out strings.Builder
	for n := range x {
		out.WriteByte(row[3*strings.IndexByte("01?", x[n])+strings.IndexByte("01?", y[n])])
	}
	return out.String()
}

const (
	rowAnd  = "00001?0??"
	rowOr   = "01?111?1?"
	rowXor  = "01?10????"
	rowBoth = "0???1????"
)

// beginning counts the first bits of a text that are among the letters.
func beginning(bits, letters string) int {
	return len(bits) - len(strings.TrimLeft(bits, letters))
}

// filled has just so many bits, with a letter for those that are missing.
func filled(bits string, w int64, letter byte) string {
	missing := max(0, int(w)-len(bits))
	return (bits + strings.Repeat(string(letter), missing))[:w]
}

func (b factBook) wantBits(i impl.Instr) string {
	if !isWidth(i.Type) {
		return ""
	}
	var x, y string
	if len(i.Args) > 0 {
		x, y = b.bitsOf(i.Args[0]), b.bitsOf(i.Args[len(i.Args)-1])
	}
	switch i.Op {
	case impl.OpAnd:
		return bitwise(x, y, rowAnd)
	case impl.OpOr:
		return bitwise(x, y, rowOr)
	case impl.OpXor:
		return bitwise(x, y, rowXor)
	case impl.OpAdd, impl.OpSub:
		t := min(beginning(x, "01"), beginning(y, "01"))
		return filled(sumText(i.Op, x[:t], y[:t]), i.Type, '?')
	case impl.OpMul:
		zeros := beginning(x, "0") + beginning(y, "0")
		return filled(strings.Repeat("0", zeros), i.Type, '?')
	case impl.OpShl, impl.OpLShr, impl.OpAShr:
		return shiftText(i, x)
	case impl.OpURem:
		return remainderText(i, x)
	case impl.OpZExt:
		return filled(x, i.Type, '0')
	case impl.OpSExt:
		return filled(x, i.Type, x[len(x)-1])
	case impl.OpTrunc:
		return x[:i.Type]
	case impl.OpSelect:
		return bitwise(b.bitsOf(i.Args[1]), y, rowBoth)
	case impl.OpPhi:
		for _, o := range i.Args {
			x = bitwise(x, b.bitsOf(o), rowBoth)
		}
		return x
	}
	return unknown(i.Type)
}

// sumText is what comes out of just so many bits.
func sumText(op int64, x, y string) string {
	if x == "" {
		return ""
	}
	sum := new(big.Int)
	if op == impl.OpAdd {
		sum.Add(fromBinary(x), fromBinary(y))
	} else {
		sum.Sub(fromBinary(x), fromBinary(y))
	}
	return binary(sum.Mod(sum, power(int64(len(x)))), len(x))
}

func shiftText(i impl.Instr, x string) string {
	by := i.Args[1]
	if by.Kind != impl.OperandWord || by.Word >= uint64(i.Type) {
		return unknown(i.Type)
	}
	switch c := int(by.Word); i.Op {
	case impl.OpShl:
		return strings.Repeat("0", c) + x[:len(x)-c]
	case impl.OpLShr:
		return filled(x[c:], i.Type, '0')
	default:
		return filled(x[c:], i.Type, x[len(x)-1])
	}
}

func remainderText(i impl.Instr, x string) string {
	by := i.Args[1]
	for k := range i.Type {
		if by.Kind == impl.OperandWord && bigWord(by.Word).Cmp(power(k)) == 0 {
			return filled(x[:k], i.Type, '0')
		}
	}
	return unknown(i.Type)
}

func (b factBook) wantSpan(i impl.Instr) span {
	all := whole(i.Type)
	if !isWidth(i.Type) {
		return all
	}
	var list []span
	for _, o := range i.Args {
		list = append(list, b.spanOf(o))
	}
	switch i.Op {
	case impl.OpSelect:
		return joined(list[1:])
	case impl.OpPhi:
		return joined(list)
	case impl.OpZExt:
		return list[0]
	case impl.OpTrunc:
		if list[0].high.Cmp(all.high) <= 0 {
			return list[0]
		}
		return all
	case impl.OpLShr:
		if by := i.Args[1]; by.Kind == impl.OperandWord && by.Word < uint64(i.Type) {
			return span{new(big.Int).Rsh(list[0].low, uint(by.Word)), new(big.Int).Rsh(list[0].high, uint(by.Word))}
		}
		return all
	}
	if i.Op > impl.OpXor {
		return all
	}
	return wantTwo(i.Op, list[0], list[1], all)
}

// joined goes from the least to the greatest of all.
func joined(list []span) span {
	out := list[0]
	for _, s := range list {
		if s.low.Cmp(out.low) < 0 {
			out.low = s.low
		}
		if s.high.Cmp(out.high) > 0 {
			out.high = s.high
		}
	}
	return out
}

func lesser(x, y *big.Int) *big.Int {
	if x.Cmp(y) < 0 {
		return x
	}
	return y
}

// wantTwo is the span of an operation that is no shift.
func wantTwo(op int64, x, y, all span) span {
	out := span{new(big.Int), new(big.Int)}
	one := big.NewInt(1)
	switch op {
	case impl.OpAdd:
		out.low.Add(x.low, y.low)
		out.high.Add(x.high, y.high)
	case impl.OpSub:
		out.low.Sub(x.low, y.high)
		out.high.Sub(x.high, y.low)
	case impl.OpMul:
		out.low.Mul(x.low, y.low)
		out.high.Mul(x.high, y.high)
	case impl.OpAnd:
		out.high = lesser(x.high, y.high)
	case impl.OpOr, impl.OpXor:
		for out.high.Cmp(x.high) < 0 || out.high.Cmp(y.high) < 0 {
			out.high.Add(out.high, out.high).Add(out.high, one)
		}
		if op == impl.OpOr && x.low.Cmp(y.low) < 0 {
			out.low = y.low
		} else if op == impl.OpOr {
			out.low = x.low
		}
	case impl.OpUDiv:
		if y.low.Sign() == 0 {
			return all
		}
		out.low.Div(x.low, y.high)
		out.high.Div(x.high, y.low)
	case impl.OpURem:
		if y.high.Sign() == 0 {
			return all
		}
		out.high = lesser(x.high, new(big.Int).Sub(y.high, one))
	default:
		return all
	}
	if out.low.Sign() < 0 || out.high.Cmp(all.high) > 0 {
		return all
	}
	return out
}

// knownOf are the bits of a text, the lowest first.
func knownOf(bits string) impl.Known {
	var k impl.Known
	for n, letter := range bits {
		switch letter {
		case '0':
			k.Zero |= 1 << n
		case '1':
			k.One |= 1 << n
		}
	}
	return k
}

// checkFacts holds the facts of a function against the words of the document.
func checkFacts(t *testing.T, f impl.Func) factBook {
	t.Helper()
	b := tellFacts(f)
	var bits []impl.Known
	var spans []impl.Span
	for n := range b.bits {
		bits = append(bits, knownOf(b.bits[n]))
		spans = append(spans, impl.Span{Low: b.spans[n].low.Uint64(), High: b.spans[n].high.Uint64()})
	}
	if got := impl.KnownBits(f); !alike(got, bits) {
		t.Fatalf("KnownBits gives\n%v, not\n%v, of\n%s", got, bits, impl.FormatModule(ofFuncs(f)))
	}
	if got := impl.Spans(f); !alike(got, spans) {
		t.Fatalf("Spans gives\n%v, not\n%v, of\n%s", got, spans, impl.FormatModule(ofFuncs(f)))
	}
	return b
}

// holds: a word has the bits that are known, and lies in the span.
func (b factBook) holds(value int64, v uint64) bool {
	return heldBy(v, b.bits[value], b.spans[value])
}

func heldBy(v uint64, bits string, s span) bool {
	for n, letter := range binary(bigWord(v), len(bits)) {
		if known := bits[n]; known != '?' && byte(letter) != known {
			return false
		}
	}
	return isIn(s.low, bigWord(v), s.high)
}

// wantAlias is by the words of the document.
func wantAlias(f impl.Func, a impl.Operand, sizeA int64, b impl.Operand, sizeB int64) int64 {
	types, _ := wantValues(f)
	for _, o := range []impl.Operand{a, b} {
		isValue := o.Kind == impl.OperandValue && o.Index >= 0 && o.Index < int64(len(types))
		if o.Type != impl.TypePtr || o.Kind != impl.OperandGlobal && (!isValue || types[o.Index] != impl.TypePtr) {
			return impl.AliasMay
		}
	}
	if !wantWellMade(f) {
		return impl.AliasMay
	}
	x, fromA := rootOf(f, a)
	y, fromB := rootOf(f, b)
	toA, toB := new(big.Int).Add(fromA, big.NewInt(max(1, sizeA))), new(big.Int).Add(fromB, big.NewInt(max(1, sizeB)))
	if x.Kind != y.Kind || x.Index != y.Index {
		if isThing(f, x) && isThing(f, y) {
			return impl.AliasNone
		}
		return impl.AliasMay
	}
	if fromA.Cmp(fromB) == 0 && toA.Cmp(toB) == 0 {
		return impl.AliasMust
	}
	if toA.Cmp(fromB) <= 0 || toB.Cmp(fromA) <= 0 {
		return impl.AliasNone
	}
	return impl.AliasMay
}

func isThing(f impl.Func, o impl.Operand) bool {
	i := definer(f, o)
	return o.Kind == impl.OperandGlobal || i != nil && i.Op == impl.OpAlloca
}

// definer is the instruction that defines an operand, if there is one.
func definer(f impl.Func, o impl.Operand) *impl.Instr {
	_, places := wantValues(f)
	if o.Kind != impl.OperandValue || places[o.Index].Block < 0 {
		return nil
	}
	return &f.Blocks[places[o.Index].Block].Instrs[places[o.Index].At]
}

// rootOf is where a pointer comes from, and the signed number of the offset.
func rootOf(f impl.Func, o impl.Operand) (impl.Operand, *big.Int) {
	sum := new(big.Int)
	for step := 0; step < 256; step++ {
		i := definer(f, o)
		if i == nil || i.Op != impl.OpOffset || i.Args[1].Kind != impl.OperandWord {
			break
		}
		sum.Add(sum, bigSigned(64, i.Args[1].Word))
		o = i.Args[0]
	}
	return o, bigSigned(64, wordOf(64, sum))
}

func checkAlias(t *testing.T, f impl.Func, a impl.Operand, sizeA int64, b impl.Operand, sizeB int64) int64 {
	t.Helper()
	got, want := impl.Alias(f, a, sizeA, b, sizeB), wantAlias(f, a, sizeA, b, sizeB)
	if turned := impl.Alias(f, b, sizeB, a, sizeA); got != want || turned != want {
		t.Fatalf("Alias of %v, %d and %v, %d gives %d, and turned %d, not %d: %+v", a, sizeA, b, sizeB, got, turned, want, f)
	}
	return got
}
