package marl

import (
	"marl/api"
	"marl/stream"
)

// Sender gives a stream in pieces. It has the stream itself, so that nothing
// that becomes of the volume later can change it.
type Sender struct {
	rest string
}

// Send makes a sender of a snapshot (P5).
func (v *Volume) Send(from string, to string) (*Sender, error) {
	if !isName(to) || from != "" && !isName(from) {
		return nil, refuse("Send", api.ErrName)
	}
	newer, older := v.find(to), v.find(from)
	if newer < 0 || from != "" && older < 0 {
		return nil, refuse("Send", api.ErrNone)
	}
	if from != "" && older >= newer {
		return nil, refuse("Send", api.ErrOrder)
	}
	texts := v.snaps[newer].blocks.Texts()
	if from == "" {
		return &Sender{rest: stream.Whole(texts)}, nil
	}
	return &Sender{rest: stream.Since(v.snaps[older].blocks.Texts(), texts)}, nil
}

// Next gives the next bytes (P5).
func (s *Sender) Next(most int) string {
	size := max(0, min(most, len(s.rest)))
	piece := s.rest[:size]
	s.rest = s.rest[size:]
	return piece
}
