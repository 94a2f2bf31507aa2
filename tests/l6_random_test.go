package tests

import (
	"bytes"
	"slices"
	"testing"

	"loop.example/g00010/impl"
)

// TestManyModulesAreUnpacked is promise 5: each module in the right shape comes back from its bytes.
func TestManyModulesAreUnpacked(t *testing.T) {
	t.Parallel()
	s := sequence(67)
	known := map[string]impl.Module{}
	for n := range 1500 {
		m := shapedModule(&s)
		if n%3 == 0 {
			m = soundModule(&s)
		}
		b := checkPacked(t, m)
		if other, twice := known[string(b)]; twice && !alike(other, m) {
			t.Fatalf("two modules have the bytes %x: %+v, %+v", b, m, other)
		}
		known[string(b)] = m
	}
}

// TestTurnedModulesArePackedOrNot: what has the wrong shape has no bytes, and the bits that it would have are no module's.
func TestTurnedModulesArePackedOrNot(t *testing.T) {
	t.Parallel()
	s := sequence(68)
	known, right := map[string]impl.Module{}, 0
	for n := range 4000 {
		m := fullModule()
		if n%2 == 0 {
			m = shapedModule(&s)
		}
		for range 1 + s.below(3) {
			turnSomething(&s, &m)
		}
		if wantFault(m) != (impl.Fault{}) {
			if got := impl.Pack(m); len(got) != 0 {
				t.Fatalf("a module of the wrong shape is packed as %x: %+v", got, m)
			}
			checkUnpack(t, bitsOfText(packedText(m)).Bytes)
			continue
		}
		right++
		b := checkPacked(t, m)
		if other, twice := known[string(b)]; twice && !alike(other, m) {
			t.Fatalf("two modules have the bytes %x: %+v, %+v", b, m, other)
		}
		known[string(b)] = m
	}
	if right < 300 {
		t.Error("only", right, "modules kept their shape")
	}
}

// bentBits changes one bit, leaves some out, has some twice, or puts others in.
func bentBits(s *sequence, text string) string {
	at := s.below(len(text))
	few := min(len(text)-at, 1+s.below(9))
	switch s.below(6) {
	case 0, 1:
		return text[:at] + string('0'+'1'-text[at]) + text[at+1:]
	case 2:
		return text[:at] + text[at+few:]
	case 3:
		return text[:at+few] + text[at:]
	case 4:
		return text[:at] + drawBits(s, few) + text[at:]
	}
	return text[:at] + drawBits(s, few) + text[at+few:]
}

func TestBentBytes(t *testing.T) {
	t.Parallel()
	s := sequence(69)
	goods, count := 0, 0
	for range 1200 {
		m := shapedModule(&s)
		text := packedText(m)
		if len(text) > 20000 {
			continue
		}
		for range 8 {
			bent := bentBits(&s, text)
			if s.below(3) == 0 && len(bent) > 0 {
				bent = bentBits(&s, bent)
			}
			b := bitsOfText(bent).Bytes
			if s.below(8) == 0 {
				b = append(b, byte(s.below(2)))
			}
			if count++; checkUnpack(t, b) && bent != text {
				goods++
			}
		}
	}
	if goods < 300 || goods > count/2 {
		t.Error(goods, "of", count, "bent bytes are a module's")
	}
}

// TestBytesOfAnything: the reader answers whatever it is given.
func TestBytesOfAnything(t *testing.T) {
	t.Parallel()
	s := sequence(70)
	for range 20000 {
		b := make([]byte, s.below(40))
		for at := range b {
			b[at] = byte(s.next() & s.next())
		}
		checkUnpack(t, b)
	}
	for b := range 1 << 16 {
		want := b == 0
		if got := impl.Unpack([]byte{byte(b), byte(b >> 8)}); got.Good != want || !alike(got.Module, impl.Module{}) {
			t.Fatalf("Unpack gives %v of the bytes of %x", got, b)
		}
	}
	for _, one := range []byte{0, 1, 8, 32, 85, 127, 128, 170, 254, 255} {
		inTime(t, "a long list of bytes", func() {
			if got := impl.Unpack(bytes.Repeat([]byte{one}, 1<<20)); !alike(got, impl.ReadResult{}) {
				t.Error("a long list of bytes is read:", one)
			}
		})
	}
}

// TestPackingLeavesAllAlone is promise 1 for Pack and Unpack.
func TestPackingLeavesAllAlone(t *testing.T) {
	s := sequence(71)
	for n := range 300 {
		m := shapedModule(&s)
		b := impl.Pack(m)
		if n%3 == 0 {
			turnSomething(&s, &m)
		}
		checkPure(t, "Pack", m, impl.Pack)
		checkPure(t, "Unpack", b, impl.Unpack)
		if n%2 == 0 {
			b[s.below(len(b))] ^= 1 << s.below(8)
			checkPure(t, "Unpack", b, impl.Unpack)
		}
		room := append(slices.Clone(b), 1, 2, 3)
		checkPure(t, "Unpack", room[:len(b):len(b)+1], impl.Unpack)
	}
}

// TestUnpackedModulesStay: what was read does not hang on its bytes any more.
func TestUnpackedModulesStay(t *testing.T) {
	s := sequence(72)
	for range 200 {
		m := shapedModule(&s)
		b := impl.Pack(m)
		r := impl.Unpack(b)
		clear(b)
		if !r.Good || !alike(r.Module, m) {
			t.Fatal("a module changes with its bytes")
		}
	}
}
