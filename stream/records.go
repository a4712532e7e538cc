package stream

import (
	"sync"

	"marl/api"
)

// Record tells the text that a block has.
type Record struct {
	Block int
	Text  string
}

// piece has the bytes of a record as they stand in a stream, from a place on:
// as many as the record says, fewer only where the stream ends. Who reads it
// does not ask whether it can stand there; who takes it does.
type piece struct {
	at    int
	bytes string
}

// takeRecords tells the records from a place on, and the place behind them, or
// the place that Parse tells if they are not ok. Reading ends with the first
// record that cannot stand: from there on nobody can tell what is a record.
func takeRecords(stream string, from int, blocks int) (records []Record, end int, ok bool) {
	pieces, stop := make(chan piece), make(chan struct{})
	var reader sync.WaitGroup
	reader.Go(func() { readRecords(stream, from, pieces, stop) })
	defer reader.Wait()
	defer close(stop)
	end = from
	ahead := 0
	for p := range pieces {
		if end, ok = p.pass(ahead, blocks); !ok {
			return nil, end, false
		}
		ahead = int(p.bytes[0])
		records = append(records, Record{Block: ahead - 1, Text: p.bytes[2:]})
	}
	return records, end, true
}

// readRecords sends what stands from a place on as records, up to the end of
// them or of the stream, or until it is stopped.
func readRecords(stream string, at int, pieces chan<- piece, stop <-chan struct{}) {
	defer close(pieces)
	for at < len(stream) && stream[at] != recordsEnd {
		p := cut(stream, at)
		select {
		case pieces <- p:
			at += len(p.bytes)
		case <-stop:
			return
		}
	}
}

func cut(stream string, at int) piece {
	size := 2
	if at+1 < len(stream) {
		size += int(stream[at+1])
	}
	return piece{at: at, bytes: stream[at:min(at+size, len(stream))]}
}

// pass tells the place behind a record that stands behind the one of the number
// ahead.
func (p piece) pass(ahead int, blocks int) (at int, ok bool) {
	number := int(p.bytes[0])
	if number <= ahead || number > blocks {
		return p.at, false
	}
	if len(p.bytes) < 2 || p.bytes[1] > api.MaxText {
		return p.at + 1, false
	}
	return p.at + len(p.bytes), len(p.bytes) == 2+int(p.bytes[1])
}
