package tests

import (
	"math/big"
	"slices"
	"strconv"
	"strings"

	"loop.example/g00010/impl"
)

// Here bits are a text of 0 and 1, the first bit first.

func reversed(text string) string {
	list := []byte(text)
	slices.Reverse(list)
	return string(list)
}

// binary is a number in just so many bits, the lowest first.
func binary(v *big.Int, n int) string {
	text := v.Text(2)
	return reversed(strings.Repeat("0", max(0, n-len(text))) + text)
}

func fromBinary(text string) *big.Int {
	n, ok := new(big.Int).SetString(reversed(text), 2)
	if !ok {
		panic("no bits: " + text)
	}
	return n
}

// textOfBits is empty for what are no bits.
func textOfBits(b impl.Bits) string {
	var text strings.Builder
	for _, c := range b.Bytes {
		text.WriteString(binary(big.NewInt(int64(c)), 8))
	}
	all := text.String()
	if b.Count < 0 || b.Count > int64(len(all)) || int64(len(all))-b.Count > 7 || strings.Contains(all[b.Count:], "1") {
		return ""
	}
	return all[:b.Count]
}

func bitsOfText(text string) impl.Bits {
	b := impl.Bits{Count: int64(len(text))}
	for at := 0; at < len(text); at += 8 {
		b.Bytes = append(b.Bytes, byte(fromBinary(text[at:min(at+8, len(text))]).Int64()))
	}
	return b
}

func wantPutBits(b impl.Bits, v uint64, n int64) impl.Bits {
	text := textOfBits(b)
	if n >= 1 && n <= 64 && bigWord(v).Cmp(power(n)) < 0 {
		text += binary(bigWord(v), int(n))
	}
	return bitsOfText(text)
}

// pieces are those of a number, n bits each, and more that are not needed.
func pieces(v uint64, n int64, more int) string {
	var list []string
	for rest := bigWord(v); len(list) == 0 || rest.Sign() > 0; rest.Rsh(rest, uint(n-1)) {
		list = append(list, binary(new(big.Int).Mod(rest, power(n-1)), int(n-1)))
	}
	for range more {
		list = append(list, strings.Repeat("0", int(n-1)))
	}
	return strings.Join(list, "1") + "0"
}

func wantPutVar(b impl.Bits, v uint64, n int64) impl.Bits {
	text := textOfBits(b)
	if n >= 2 && n <= 32 {
		text += pieces(v, n, 0)
	}
	return bitsOfText(text)
}

func wantGetBits(b impl.Bits, at, n int64) impl.BitResult {
	text := textOfBits(b)
	if n < 1 || n > 64 || at < 0 || at > int64(len(text)) || n > int64(len(text))-at {
		return impl.BitResult{}
	}
	return impl.BitResult{Good: true, Word: fromBinary(text[at : at+n]).Uint64(), At: at + n}
}

func wantGetVar(b impl.Bits, at, n int64) impl.BitResult {
	text := textOfBits(b)
	if n < 2 || n > 32 || at < 0 || at > int64(len(text)) {
		return impl.BitResult{}
	}
	number := ""
	for rest := text[at:]; int64(len(rest)) >= n; rest = rest[n:] {
		number += rest[:n-1]
		if rest[n-1] == '1' {
			continue
		}
		v := fromBinary(number)
		needless := len(number) > int(n-1) && !strings.Contains(rest[:n-1], "1")
		if needless || v.Cmp(power(64)) >= 0 {
			return impl.BitResult{}
		}
		return impl.BitResult{Good: true, Word: v.Uint64(), At: int64(len(text)-len(rest)) + n}
	}
	return impl.BitResult{}
}

var typeCodes = []int64{0, 1, 8, 16, 32, 64, 65}

// packer tells a module's bits by the words of the document. Of what a field has no room for the lowest bits are told.
type packer struct {
	strings.Builder
	numbers int                                            // how many numbers in pieces there have been
	bend    func(at int, v uint64, n int64) (string, bool) // other bits for some of them
}

func (p *packer) plain(v int64, n int) {
	p.WriteString(binary(new(big.Int).Mod(big.NewInt(v), power(int64(n))), n))
}

func (p *packer) pieces(v uint64, n int64) {
	text := pieces(v, n, 0)
	if p.bend != nil {
		if other, bent := p.bend(p.numbers, v, n); bent {
			text = other
		}
	}
	p.numbers++
	p.WriteString(text)
}

func (p *packer) number(v int64) {
	p.pieces(uint64(v), 6)
}

func (p *packer) bytes(list []byte) {
	p.number(int64(len(list)))
	for _, b := range list {
		p.plain(int64(b), 8)
	}
}

func (p *packer) typ(t int64) {
	if code := slices.Index(typeCodes, t); code >= 0 {
		p.plain(int64(code), 3)
		return
	}
	p.plain(7, 3)
}

func (p *packer) operand(o impl.Operand) {
	p.plain(o.Kind, 3)
	p.typ(o.Type)
	switch o.Kind {
	case 1:
		p.pieces(o.Word, 9)
	case 4, 5:
		p.number(o.Index)
	}
}

func (p *packer) instr(i impl.Instr) {
	p.plain(i.Op, 5)
	p.typ(i.Type)
	p.number(int64(len(i.Args)))
	for _, o := range i.Args {
		p.operand(o)
	}
	if i.Op >= 1 && i.Op <= 13 {
		p.plain(i.Flags, 3)
	}
	if i.Op == impl.OpCompare {
		p.plain(i.Pred, 4)
	}
	if i.Op == impl.OpCall {
		p.number(i.Callee)
	}
	if i.Op == impl.OpAlloca {
		p.number(i.Size)
	}
	if i.Op == impl.OpPhi || i.Op >= impl.OpJump && i.Op <= impl.OpSwitch {
		p.number(int64(len(i.Blocks)))
		for _, b := range i.Blocks {
			p.number(b)
		}
	}
	if i.Op == impl.OpSwitch {
		p.number(int64(len(i.Words)))
		for _, w := range i.Words {
			p.pieces(w, 9)
		}
	}
}

func (p *packer) module(m impl.Module) {
	p.number(int64(len(m.Globals)))
	for _, g := range m.Globals {
		p.bytes([]byte(g.Name))
		p.plain(g.Link, 2)
		p.plain(map[bool]int64{true: 1}[g.Fixed], 1)
		p.number(g.Size)
		p.bytes(g.Bytes)
	}
	p.number(int64(len(m.Funcs)))
	for _, f := range m.Funcs {
		p.bytes([]byte(f.Name))
		p.plain(f.Link, 2)
		p.plain(int64(len(f.Params)), 3)
		for _, t := range f.Params {
			p.typ(t)
		}
		p.typ(f.Result)
		p.number(int64(len(f.Blocks)))
		for _, b := range f.Blocks {
			p.number(int64(len(b.Instrs)))
			for _, i := range b.Instrs {
				p.instr(i)
			}
		}
	}
}

// packedText is the bits of a module, whatever its shape.
func packedText(m impl.Module) string {
	var p packer
	p.module(m)
	return p.String()
}

func wantPack(m impl.Module) []byte {
	if wantFault(m).Code != 0 {
		return nil
	}
	return bitsOfText(packedText(m)).Bytes
}

// unpacker is a reader that stops at what is not as it should be.
type unpacker struct {
	rest   string
	failed bool
}

func (u *unpacker) plain(n int) int64 {
	if u.failed || len(u.rest) < n {
		u.failed = true
		return 0
	}
	v := fromBinary(u.rest[:n]).Int64()
	u.rest = u.rest[n:]
	return v
}

// number has no more than 64 bits in pieces, each of which is needed.
func (u *unpacker) number(n int) uint64 {
	text, last := "", ""
	for more := int64(1); more == 1 && !u.failed; {
		if len(u.rest) < n {
			u.failed = true
			return 0
		}
		last, u.rest = u.rest[:n-1], u.rest[n-1:]
		text += last
		more = u.plain(1)
	}
	if u.failed || len(text) > n-1 && !strings.Contains(last, "1") || strings.Contains(text[min(64, len(text)):], "1") {
		u.failed = true
		return 0
	}
	v, _ := strconv.ParseUint(reversed(text[:min(64, len(text))]), 2, 64)
	return v
}

// count fails ahead of what can't follow: each element has a bit at least.
func (u *unpacker) count() int {
	v := u.number(6)
	if v > uint64(len(u.rest)) {
		u.failed = true
		return 0
	}
	return int(v)
}

func (u *unpacker) index() int64 {
	v := u.number(6)
	u.failed = u.failed || v > 1<<62
	return int64(v)
}

func (u *unpacker) bytes() []byte {
	var out []byte
	for range u.count() {
		out = append(out, byte(u.plain(8)))
	}
	return out
}

func (u *unpacker) typ() int64 {
	code := u.plain(3)
	if code == 7 {
		u.failed = true
		return 0
	}
	return typeCodes[code]
}

func (u *unpacker) operand() impl.Operand {
	o := impl.Operand{Kind: u.plain(3)}
	o.Type = u.typ()
	switch o.Kind {
	case 1:
		o.Word = u.number(9)
	case 4, 5:
		o.Index = u.index()
	}
	return o
}

func (u *unpacker) blocks() []int64 {
	var out []int64
	for range u.count() {
		out = append(out, u.index())
	}
	return out
}

func (u *unpacker) instr() impl.Instr {
	i := impl.Instr{Op: u.plain(5)}
	i.Type = u.typ()
	for range u.count() {
		i.Args = append(i.Args, u.operand())
	}
	switch {
	case i.Op >= 1 && i.Op <= 13:
		i.Flags = u.plain(3)
	case i.Op == impl.OpCompare:
		i.Pred = u.plain(4)
	case i.Op == impl.OpCall:
		i.Callee = u.index()
	case i.Op == impl.OpAlloca:
		i.Size = u.index()
	case i.Op == impl.OpPhi, i.Op == impl.OpJump, i.Op == impl.OpBranch:
		i.Blocks = u.blocks()
	case i.Op == impl.OpSwitch:
		i.Blocks = u.blocks()
		for range u.count() {
			i.Words = append(i.Words, u.number(9))
		}
	}
	return i
}

func (u *unpacker) function() impl.Func {
	f := impl.Func{Name: string(u.bytes()), Link: u.plain(2)}
	for range u.plain(3) {
		f.Params = append(f.Params, u.typ())
	}
	f.Result = u.typ()
	for range u.count() {
		var b impl.Block
		for range u.count() {
			b.Instrs = append(b.Instrs, u.instr())
		}
		f.Blocks = append(f.Blocks, b)
	}
	return f
}

func (u *unpacker) module() impl.Module {
	var m impl.Module
	for range u.count() {
		g := impl.Global{Name: string(u.bytes()), Link: u.plain(2), Fixed: u.plain(1) == 1}
		g.Size = u.index()
		g.Bytes = u.bytes()
		m.Globals = append(m.Globals, g)
	}
	for range u.count() {
		m.Funcs = append(m.Funcs, u.function())
	}
	return m
}

// wantUnpack takes the bytes of modules by the words of the document, without packing anything.
func wantUnpack(b []byte) impl.ReadResult {
	u := unpacker{rest: textOfBits(impl.Bits{Bytes: b, Count: 8 * int64(len(b))})}
	m := u.module()
	if u.failed || len(u.rest) > 7 || strings.Contains(u.rest, "1") || wantFault(m) != (impl.Fault{}) {
		return impl.ReadResult{}
	}
	return impl.ReadResult{Good: true, Module: m}
}
