package tests

import (
	"slices"
	"testing"

	"loop.example/g00010/impl"
)

// wantVerify is the first fault by the words of the document.
func wantVerify(m impl.Module) impl.Fault {
	if fault := wantFault(m); fault.Code != 0 {
		return fault
	}
	for fn, f := range m.Funcs {
		if f.Link == impl.LinkExtern {
			continue
		}
		g := tableOf(f)
		if len(g.before(0)) > 0 {
			return impl.Fault{Code: 10, Func: int64(fn), Block: 0, At: -1}
		}
		for b := range f.Blocks {
			for at := range f.Blocks[b].Instrs {
				if code := g.wantCode(int64(b), int64(at)); code != 0 {
					return impl.Fault{Code: code, Func: int64(fn), Block: int64(b), At: int64(at)}
				}
			}
		}
	}
	return impl.Fault{}
}

// before are the blocks that go to one.
func (g graphTable) before(b int64) []int64 {
	return g.rising(func(p int64) bool { return g.goes[p][b] })
}

func (g graphTable) wantCode(b, at int64) int64 {
	i := g.f.Blocks[b].Instrs[at]
	if i.Op == impl.OpPhi && !slices.Equal(i.Blocks, g.before(b)) {
		return 11
	}
	if !g.hold[b][b] {
		return 0
	}
	for k, o := range i.Args {
		use := impl.Place{Block: b, At: at}
		if i.Op == impl.OpPhi {
			use = g.endOf(i.Blocks[k])
		}
		if o.Kind == impl.OperandValue && g.hold[use.Block][use.Block] && !g.isAhead(o.Index, use) {
			return 12
		}
	}
	return 0
}

func (g graphTable) endOf(b int64) impl.Place {
	return impl.Place{Block: b, At: int64(len(g.f.Blocks[b].Instrs))}
}

// isAhead: the value is a parameter, or defined at a place ahead in the block, or in another block that dominates it.
func (g graphTable) isAhead(value int64, use impl.Place) bool {
	_, homes := wantValues(g.f)
	home := homes[value]
	switch home.Block {
	case -1:
		return true
	case use.Block:
		return home.At < use.At
	}
	return g.hold[home.Block][use.Block]
}

// strays: a way from where the function begins comes to a use of a value, and not over its definition.
func (g graphTable) strays() bool {
	_, homes := wantValues(g.f)
	for v, home := range homes {
		if home.Block >= 0 && g.isLive(int64(v), home, 0) {
			return true
		}
	}
	return false
}

// checkVerify holds the fault against the words of the document, and against all ways; it answers its code.
func checkVerify(t *testing.T, m impl.Module) int64 {
	t.Helper()
	got, want := impl.Verify(m), wantVerify(m)
	if got != want {
		t.Fatalf("Verify gives %v, not %v: %+v\n%s", got, want, m, impl.FormatModule(m))
	}
	for fn, f := range m.Funcs {
		if f.Link == impl.LinkExtern || got.Code != 0 && got.Func != int64(fn) {
			continue
		}
		strays := got.Code == 0 || got.Code == 12
		if strays && tableOf(f).strays() != (got.Code == 12) {
			t.Fatalf("Verify gives %v, against the ways: %+v\n%s", got, m, impl.FormatModule(m))
		}
	}
	return got.Code
}
