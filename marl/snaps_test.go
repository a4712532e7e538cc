package marl_test

import (
	"testing"

	"marl/api"
)

func TestSnapKeepsTheTexts(t *testing.T) {
	v := create(t, 2, 9)
	snap(t, v, "void")
	write(t, v, 0, "ab")
	snap(t, v, "a")
	write(t, v, 0, "")
	write(t, v, 1, "c")
	snap(t, v, "b")
	write(t, v, 0, "x")
	write(t, v, 1, "y")
	wantTexts(t, v, "void", "", "")
	wantTexts(t, v, "a", "ab", "")
	wantTexts(t, v, "b", "", "c")
	wantTexts(t, v, "", "x", "y")
	drop(t, v, "a")
	wantTexts(t, v, "void", "", "")
	wantTexts(t, v, "b", "", "c")
	wantTexts(t, v, "", "x", "y")
}

func TestNamesOfAllLengthsAndLetters(t *testing.T) {
	v := create(t, 1, 1)
	for c := 'a'; c <= 'z'; c++ {
		l := string(c)
		for _, name := range []string{l, l + "a", "z" + l + "a", "az" + l + "z"} {
			snap(t, v, name)
			wantList(t, v, name)
			wantTexts(t, v, name, "")
			drop(t, v, name)
			wantList(t, v)
		}
	}
}

func TestSnapRefused(t *testing.T) {
	v := create(t, 1, 9)
	write(t, v, 0, "a")
	snap(t, v, "a")
	refused := func(name string, want api.Code) {
		t.Helper()
		wantRefused(t, v, "Snap "+name, want, func() error { return v.Snap(name) })
	}
	refused("a", api.ErrTwice)
	for _, name := range notNames() {
		refused(name, api.ErrName)
	}
	snap(t, v, "b", "c", "d", "e", "zzzz")
	wantList(t, v, "a", "b", "c", "d", "e", "zzzz")
	refused("g", api.ErrMany)
	for _, name := range v.List() {
		refused(name, api.ErrTwice)
	}
	refused("", api.ErrName)
	refused("A", api.ErrName)
	drop(t, v, "c")
	refused("b", api.ErrTwice)
	snap(t, v, "g")
	refused("c", api.ErrMany)
}

func TestDropRefused(t *testing.T) {
	v := create(t, 1, 9)
	write(t, v, 0, "a")
	refused := func(name string, want api.Code) {
		t.Helper()
		wantRefused(t, v, "Drop "+name, want, func() error { return v.Drop(name) })
	}
	refused("a", api.ErrNone)
	snap(t, v, "a", "ab")
	for _, name := range notNames() {
		refused(name, api.ErrName)
	}
	for _, name := range []string{"b", "aa", "abc", "zzzz"} {
		refused(name, api.ErrNone)
	}
	drop(t, v, "a")
	refused("a", api.ErrNone)
	wantList(t, v, "ab")
}

func TestListFromTheOldestOn(t *testing.T) {
	v := create(t, 1, 1)
	snap(t, v, "f", "e", "d", "c", "b", "a")
	wantList(t, v, "f", "e", "d", "c", "b", "a")
	drop(t, v, "f")
	wantList(t, v, "e", "d", "c", "b", "a")
	drop(t, v, "a", "c")
	wantList(t, v, "e", "d", "b")
	snap(t, v, "f", "c")
	wantList(t, v, "e", "d", "b", "f", "c")
	drop(t, v, "d")
	snap(t, v, "d", "x")
	wantList(t, v, "e", "b", "f", "c", "d", "x")
	drop(t, v, "x", "e", "b", "d", "f", "c")
	wantList(t, v)
}

func TestANameAgainIsAnotherSnapshot(t *testing.T) {
	v := create(t, 1, 2)
	write(t, v, 0, "old")
	snap(t, v, "a")
	write(t, v, 0, "new")
	drop(t, v, "a")
	snap(t, v, "a")
	wantTexts(t, v, "a", "new")
	wantUsed(t, v, 1)
}

func TestUsedOfTheDocument(t *testing.T) {
	v := create(t, 2, 9)
	write(t, v, 0, "ab")
	snap(t, v, "a")
	write(t, v, 1, "c")
	snap(t, v, "b")
	wantUsed(t, v, 2)
	write(t, v, 0, "")
	wantUsed(t, v, 2)
	write(t, v, 0, "ab")
	wantUsed(t, v, 3)
}

func TestUsedWithTheSameTextElsewhere(t *testing.T) {
	v := create(t, 3, 9)
	write(t, v, 0, "a")
	write(t, v, 1, "a")
	wantUsed(t, v, 2)
	snap(t, v, "a", "b", "c", "d", "e", "f")
	wantUsed(t, v, 2)
	write(t, v, 0, "a")
	wantUsed(t, v, 2)
	write(t, v, 0, "b")
	write(t, v, 0, "a")
	wantUsed(t, v, 3)
	write(t, v, 2, "")
	wantUsed(t, v, 3)
}

func TestACellIsFreeWhenNobodyHasIt(t *testing.T) {
	v := create(t, 1, 9)
	write(t, v, 0, "a")
	snap(t, v, "a", "b")
	write(t, v, 0, "b")
	snap(t, v, "c")
	wantUsed(t, v, 2)
	drop(t, v, "a")
	wantUsed(t, v, 2)
	drop(t, v, "b")
	wantUsed(t, v, 1)
	drop(t, v, "c")
	wantUsed(t, v, 1)
	write(t, v, 0, "")
	wantUsed(t, v, 0)
}
