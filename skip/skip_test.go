package skip_test

import (
	"slices"
	"testing"

	"sentry/skip"
)

// keys are texts that stand close to one another.
func keys() []string {
	l := []string{"", "\x00", "\x00\x00", "a", "a\x00", "aa", "ab", "b", "ba", "\xff", "\xff\xff"}
	for i := range 200 {
		l = append(l, string([]byte{byte('c' + i%7), byte(i * 37), byte(i)}))
	}
	return l
}

// same holds a list against the keys that it should have.
func same(t *testing.T, l *skip.List, want []string) {
	t.Helper()
	if got := l.All(); !slices.Equal(got, want) {
		t.Fatalf("%q, want %q", got, want)
	}
	size := 0
	for _, k := range want {
		size += len(k)
	}
	last, ok := l.Last()
	if l.Len() != len(want) || l.Size() != size || ok != (len(want) > 0) || ok && last != want[len(want)-1] || !ok && last != "" {
		t.Fatalf("%d keys, %d bytes, last %q %t", l.Len(), l.Size(), last, ok)
	}
	for _, k := range append(keys(), "aaa", "zz", "\xff\xff\xff") {
		i, found := slices.BinarySearch(want, k)
		if l.Has(k) != found {
			t.Fatalf("has %q", k)
		}
		at := func(i int) (string, bool) {
			if i < len(want) {
				return want[i], true
			}
			return "", false
		}
		s, ok := l.Seek(k)
		if w, wok := at(i); s != w || ok != wok {
			t.Fatalf("seek of %q: %q %t", k, s, ok)
		}
		if found {
			i++
		}
		s, ok = l.After(k)
		if w, wok := at(i); s != w || ok != wok {
			t.Fatalf("after %q: %q %t", k, s, ok)
		}
	}
}

// P11.1, P11.2: whatever draws there are, the answers are those of a sorted row.
func TestList(t *testing.T) {
	var all []byte
	for i := range 256 {
		all = append(all, byte(i*167))
	}
	for _, draws := range [][]byte{nil, {0}, {255, 255, 255}, all, slices.Repeat([]byte{255}, 300), slices.Repeat([]byte{1, 0, 3, 0, 7, 127}, 20)} {
		l := skip.New(draws)
		var want []string
		same(t, l, want)
		for i, k := range keys() {
			at, found := slices.BinarySearch(want, k)
			if l.Put(k) == found {
				t.Fatalf("put of %q", k)
			}
			if !found {
				want = slices.Insert(want, at, k)
			}
			if l.Put(k) {
				t.Fatalf("%q is new twice", k)
			}
			if i%23 == 0 {
				same(t, l, want)
			}
		}
		same(t, l, want)
	}
}

// P11.1: the chapter's example.
func TestExample(t *testing.T) {
	l := skip.New([]byte{3, 1})
	if !l.Put("b") || !l.Put("a") || l.Put("b") {
		t.Fatal("put")
	}
	if k, ok := l.Seek("aa"); k != "b" || !ok {
		t.Fatal(k, ok)
	}
}

// P11.1: lists of their own, and what is handed in and out.
func TestApart(t *testing.T) {
	draws := []byte{1, 1, 1}
	l, m := skip.New(draws), skip.New(draws)
	l.Put("x")
	draws[0] = 255
	l.Put("y")
	if m.Len() != 0 || draws[1] != 1 {
		t.Fatal("lists share something")
	}
	got := l.All()
	got[0] = "changed"
	if !l.Has("x") || !slices.Equal(l.All(), []string{"x", "y"}) {
		t.Fatal("the answer shares memory")
	}
}

func TestNil(t *testing.T) {
	var l *skip.List
	if l.Put("a") || l.Has("a") || l.Len() != 0 || l.Size() != 0 || len(l.All()) != 0 {
		t.Fatal("a nil list has keys")
	}
	for _, f := range []func() (string, bool){func() (string, bool) { return l.Seek("") }, func() (string, bool) { return l.After("") }, l.Last} {
		if k, ok := f(); k != "" || ok {
			t.Fatal(k, ok)
		}
	}
}
