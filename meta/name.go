package meta

import (
	"strconv"
	"strings"
)

// digits is how many a name's number has.
const digits = 6

// Name is a file's: its kind, and its number.
func Name(kind string, n int) string {
	if n < 0 || n > mostNumber {
		return ""
	}
	s := strconv.Itoa(n)
	return kind + "-" + strings.Repeat("0", digits-len(s)) + s
}

// Parse tells of what file of a store a name is.
func Parse(name string) (string, int, bool) {
	kind, text, _ := strings.Cut(name, "-")
	n, err := strconv.Atoi(text)
	if err != nil || kind != "wal" && kind != "block" || Name(kind, n) != name {
		return "", 0, false
	}
	return kind, n, true
}

// Temp is the name of a file that is not done.
func Temp(name string) string { return "tmp-" + name }
