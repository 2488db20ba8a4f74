package mixed

import (
	"iter"
	"strconv"
	"strings"

	"alluvium/api"
	"alluvium/label"
	"alluvium/truth"
)

// Dump is a state as text.
func Dump(s truth.State) string {
	var b strings.Builder
	for line := range (seen{State: s}).lines() {
		b.WriteString(line)
		b.WriteByte('\n')
	}
	return b.String()
}

// lines tells the lines that a state is told by.
func (x seen) lines() iter.Seq[string] {
	return func(yield func(string) bool) {
		if !yield(number(x.Floor)) {
			return
		}
		for _, one := range x.Series {
			if !yield(label.Show(one.Labels) + " " + number(one.Last)) {
				return
			}
			for _, p := range one.Samples {
				if !yield(" " + number(p.T) + " " + strconv.FormatUint(p.V, 10)) {
					return
				}
			}
		}
	}
}

func number(n int64) string { return strconv.FormatInt(n, 10) }

// linesOf tells the lines of a text.
func linesOf(s string) iter.Seq[string] {
	return func(yield func(string) bool) {
		for rest := s; rest != ""; {
			line, behind, _ := strings.Cut(rest, "\n")
			if !yield(line) {
				return
			}
			rest = behind
		}
	}
}

// Read is the state that a text is the Dump of.
func Read(s string) (truth.State, bool) {
	var x seen
	first, ok := true, true
	for line := range linesOf(s) {
		switch {
		case first:
			x.Floor, ok = readNumber(line)
			first = false
		case strings.HasPrefix(line, " "):
			ok = x.readSample(line[1:])
		default:
			ok = x.readSeries(line)
		}
		if !ok {
			return truth.State{}, false
		}
	}
	// nothing else is read than what would be told so
	if !truth.Valid(x.State) || Dump(x.State) != s {
		return truth.State{}, false
	}
	return x.State, true
}

func readNumber(s string) (int64, bool) {
	n, err := strconv.ParseInt(s, 10, 64)
	return n, err == nil
}

// readSample is a sample, behind those of the last series.
func (x *seen) readSample(line string) bool {
	t, v, _ := strings.Cut(line, " ")
	at, ok := readNumber(t)
	n, err := strconv.ParseUint(v, 10, 64)
	if !ok || err != nil || len(x.Series) == 0 {
		return false
	}
	last := &x.Series[len(x.Series)-1]
	last.Samples = append(last.Samples, api.Sample{T: at, V: n})
	return true
}

// readSeries is a series, behind all others: its last time is behind the last blank.
func (x *seen) readSeries(line string) bool {
	at := strings.LastIndexByte(line, ' ')
	if at < 0 {
		return false
	}
	l, ok := label.Read(line[:at])
	last, also := readNumber(line[at+1:])
	x.Series = append(x.Series, api.Series{Labels: l, Last: last})
	return ok && also
}
