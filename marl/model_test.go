package marl_test

import (
	"math/rand"
	"slices"
	"strconv"
	"testing"

	"marl/api"
	"marl/marl"
)

// model is a volume told another way: every cell that ever was has a number,
// and who has it is counted.
type model struct {
	pool   int
	made   int
	owners map[int]int
	now    []held
	names  []string
	snaps  map[string][]held
}

// held: a text and its cell's number, 0 if it is empty.
type held struct {
	text string
	cell int
}

func (m *model) count(l []held, by int) {
	for _, h := range l {
		if h.cell == 0 {
			continue
		}
		m.owners[h.cell] += by
		if m.owners[h.cell] == 0 {
			delete(m.owners, h.cell)
		}
	}
}

func (m *model) write(block int, text string) api.Code {
	if block < 0 || block >= len(m.now) {
		return api.ErrArg
	}
	if len(text) > 6 {
		return api.ErrText
	}
	old := m.now[block]
	if old.text == text {
		return 0
	}
	if text == "" {
		m.count([]held{old}, -1)
		m.now[block] = held{}
		return 0
	}
	freed := 0
	if old.cell != 0 && m.owners[old.cell] == 1 {
		freed = 1
	}
	if len(m.owners)-freed+1 > m.pool {
		return api.ErrFull
	}
	m.count([]held{old}, -1)
	m.made++
	m.now[block] = held{text, m.made}
	m.count(m.now[block:block+1], 1)
	return 0
}

func (m *model) snap(name string) api.Code {
	if name == "" {
		return api.ErrName
	}
	if slices.Contains(m.names, name) {
		return api.ErrTwice
	}
	if len(m.names) == 6 {
		return api.ErrMany
	}
	m.names = append(m.names, name)
	m.snaps[name] = slices.Clone(m.now)
	m.count(m.now, 1)
	return 0
}

func (m *model) drop(name string) api.Code {
	if name == "" {
		return api.ErrName
	}
	if !slices.Contains(m.names, name) {
		return api.ErrNone
	}
	m.count(m.snaps[name], -1)
	m.names = slices.DeleteFunc(m.names, func(n string) bool { return n == name })
	delete(m.snaps, name)
	return 0
}

func (m *model) send(from, to string) (string, api.Code) {
	if to == "" {
		return "", api.ErrName
	}
	older, newer := slices.Index(m.names, from), slices.Index(m.names, to)
	if newer < 0 || from != "" && older < 0 {
		return "", api.ErrNone
	}
	if from != "" && older >= newer {
		return "", api.ErrOrder
	}
	base, head := make([]held, len(m.now)), noBase
	if from != "" {
		base, head = m.snaps[from], "\x01"+sumText(told(m.snaps[from], nil))
	}
	blocks := string([]byte{byte(len(m.now))})
	return summed("M1" + blocks + head + told(m.snaps[to], base) + "\x00"), 0
}

// told: the length and text of each block; with a base only where they are
// other than there, and the block's number ahead of them.
func told(l, base []held) string {
	s := ""
	for block, h := range l {
		if base != nil && base[block].text == h.text {
			continue
		}
		if base != nil {
			s += string([]byte{byte(block + 1)})
		}
		s += string([]byte{byte(len(h.text))}) + h.text
	}
	return s
}

func (m *model) look() state {
	s := state{names: m.names, used: len(m.owners)}
	for _, l := range append([][]held{m.now}, m.inOrder()...) {
		var texts []string
		for _, h := range l {
			texts = append(texts, h.text)
		}
		s.texts = append(s.texts, texts)
	}
	return s
}

func (m *model) inOrder() [][]held {
	var l [][]held
	for _, name := range m.names {
		l = append(l, m.snaps[name])
	}
	return l
}

// begun: a sender, and what it has yet to give.
type begun struct {
	sender *marl.Sender
	left   string
}

func (b *begun) wantNext(t *testing.T, what string, most int) {
	t.Helper()
	want := b.left[:max(0, min(most, len(b.left)))]
	if got := b.sender.Next(most); got != want {
		t.Fatalf("%s: Next(%d) = %q, want %q", what, most, got, want)
	}
	b.left = b.left[len(want):]
}

// TestLongRuns holds volumes of many sizes against the model, call by call.
func TestLongRuns(t *testing.T) {
	names := []string{"a", "b", "c", "d", "e", "f", "g", "zzzz", ""}
	texts := []string{"", "", "a", "b", "c", "abcdef", "\x00", "abcdefg"}
	for seed := range 120 {
		r := rand.New(rand.NewSource(int64(seed)))
		blocks, pool := 1+r.Intn(16), 1+r.Intn(40)
		v := create(t, blocks, pool)
		m := &model{pool: pool, owners: map[int]int{}, now: make([]held, blocks), snaps: map[string][]held{}}
		var senders []*begun
		for step := range 200 {
			what, err, want := "", error(nil), api.Code(0)
			switch name := names[r.Intn(len(names))]; r.Intn(8) {
			case 0:
				what, err, want = "Snap "+name, v.Snap(name), m.snap(name)
			case 1:
				what, err, want = "Drop "+name, v.Drop(name), m.drop(name)
			case 2, 3:
				b, from := &begun{}, names[r.Intn(len(names))]
				what = "Send from " + from + " to " + name
				b.sender, err = v.Send(from, name)
				b.left, want = m.send(from, name)
				if want == 0 {
					senders = append(senders, b)
				}
			default:
				block, text := r.Intn(blocks+2)-1, texts[r.Intn(len(texts))]
				what, err, want = "Write "+text, v.Write(block, text), m.write(block, text)
			}
			what += " in run " + strconv.Itoa(seed) + ", step " + strconv.Itoa(step)
			if want == 0 {
				wantDone(t, what, err)
			} else {
				wantFault(t, what, err, want)
			}
			for _, b := range senders {
				b.wantNext(t, what, r.Intn(6)-1)
			}
			if has, should := look(t, v), m.look(); !same(has, should) {
				t.Fatalf("%s: %v, want %v", what, has, should)
			}
		}
	}
}
