package escheat_test

import (
	"testing"

	"escheat/api"
	"escheat/escheat"
)

const greatest = 4294967295

// P3, P4: words of a frame, of each size, from the first to the last; none beside it.
func TestStoreAndLoad(t *testing.T) {
	for bits := 2; bits <= 6; bits++ {
		k := escheat.Boot()
		must(t, k, retype(at(0), api.Frame, bits, 2, 3))
		base, last := capAt(t, k, 0, 3).Cap.Base, 1<<bits-1
		if w := must(t, k, store(at(3), 0, 1)); w != 0 {
			t.Errorf("Store answers %d", w)
		}
		must(t, k, store(at(3), last, greatest))
		for n := range api.MaxWords {
			want := map[int]int{base: 1, base + last: greatest}[n]
			if w, err := k.Word(n); w != want || err != api.OK {
				t.Errorf("Bits %d: Word(%d) = %d, %d, want %d", bits, n, w, err, want)
			}
		}
		if w := must(t, k, load(at(3), last)); w != greatest {
			t.Errorf("Load = %d", w)
		}
		must(t, k, store(at(3), last, 0))
		if w := must(t, k, load(at(3), last)); w != 0 {
			t.Errorf("Load = %d", w)
		}
		for _, offset := range []int{-1, last + 1, huge, -huge - 1} {
			refused(t, k, first, load(at(3), offset), api.ErrArg)
			refused(t, k, first, store(at(3), offset, 5), api.ErrArg)
		}
		for _, value := range []int{-1, greatest + 1, huge, -huge - 1} {
			refused(t, k, first, store(at(3), 0, value), api.ErrArg)
		}
	}
}

// P3: Load asks for Read, Store for Write; Grant is of no use for either.
func TestFrameRights(t *testing.T) {
	for rights := range 8 {
		k := escheat.Boot()
		must(t, k, retype(at(0), api.Frame, 2, 1, 3))
		must(t, k, store(at(3), 1, 77))
		must(t, k, copied(at(3), at(4), rights))
		if rights&api.Read == 0 {
			refused(t, k, first, load(at(4), 1), api.ErrRights)
			refused(t, k, first, load(at(4), 9), api.ErrRights)
		} else if w := must(t, k, load(at(4), 1)); w != 77 {
			t.Errorf("Load by a copy = %d", w)
		}
		if rights&api.Write == 0 {
			refused(t, k, first, store(at(4), 1, 78), api.ErrRights)
			refused(t, k, first, store(at(4), 9, -1), api.ErrRights)
		} else {
			must(t, k, store(at(4), 1, 78))
			if w := must(t, k, load(at(3), 1)); w != 78 {
				t.Errorf("Load behind a Store by a copy = %d", w)
			}
		}
	}
}

// P1, P3: whatever is not a frame's is of the wrong type, an empty slot too.
func TestFrameTypes(t *testing.T) {
	k := escheat.Boot()
	must(t, k, retype(at(0), api.Endpoint, 2, 1, 3))
	for _, other := range []int{0, 1, 2, 3, 4} {
		refused(t, k, first, load(at(other), 99), api.ErrType)
		refused(t, k, first, store(at(other), 99, -1), api.ErrType)
	}
}
