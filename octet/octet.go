// Package octet is layer 1: see shared/doc/01-octet.md.
package octet

// maxDigits keeps every Number below 2^63.
const maxDigits = 18

// hexDigits has great letters alone, for a text has just one Word.
const hexDigits = "0123456789ABCDEF"

// emptyWord stands for the empty text, which would be no word of a line.
const emptyWord = "%"

// Lower: with small letters.
func Lower(s string) string {
	text := []byte(s)
	for i := range text {
		text[i] = small(text[i])
	}
	return string(text)
}

// Same: the same, but for great and small letters?
func Same(a, b string) bool {
	if len(a) != len(b) {
		return false
	}
	for i := range len(a) {
		if small(a[i]) != small(b[i]) {
			return false
		}
	}
	return true
}

// Trim: without blanks at both ends.
func Trim(s string) string {
	from, to := 0, len(s)
	for from < to && blank(s[from]) {
		from++
	}
	for from < to && blank(s[to-1]) {
		to--
	}
	return s[from:to]
}

// Digits: digits alone?
func Digits(s string) bool {
	for i := range len(s) {
		if s[i] < '0' || s[i] > '9' {
			return false
		}
	}
	return s != ""
}

// Number: the number that digits are.
func Number(s string) (int64, bool) {
	if len(s) > maxDigits || !Digits(s) {
		return 0, false
	}
	if s[0] == '0' && s != "0" {
		return 0, false
	}
	number := int64(0)
	for i := range len(s) {
		number = number*10 + int64(s[i]-'0')
	}
	return number, true
}

// Split: the pieces between bytes.
func Split(s string, at byte) []string {
	var pieces []string
	from := 0
	for i := range len(s) {
		if s[i] == at {
			pieces = append(pieces, s[from:i])
			from = i + 1
		}
	}
	return append(pieces, s[from:])
}

// Lines: a text's lines.
func Lines(s string) []string {
	lines := Split(s, '\n')
	// The last piece is looked at with its byte 13: with one it isn't empty, and so a line.
	if last := len(lines) - 1; lines[last] == "" {
		lines = lines[:last]
	}
	for i, line := range lines {
		lines[i] = withoutReturn(line)
	}
	return lines
}

// Words: a line's words.
func Words(s string) ([]string, bool) {
	words := Split(s, ' ')
	for _, word := range words {
		if word == "" {
			return nil, false
		}
	}
	return words, true
}

// Word: any bytes as a word.
func Word(s string) string {
	if s == "" {
		return emptyWord
	}
	var word []byte
	for i := range len(s) {
		c := s[i]
		if plain(c) {
			word = append(word, c)
		} else {
			word = append(word, '%', hexDigits[c>>4], hexDigits[c&15])
		}
	}
	return string(word)
}

// Unword: the bytes that a word stands for.
func Unword(s string) (string, bool) {
	if s == emptyWord {
		return "", true
	}
	var text []byte
	for at := 0; at < len(s); {
		c, size := unwordByte(s[at:])
		if size == 0 {
			return "", false
		}
		text = append(text, c)
		at += size
	}
	return string(text), len(text) > 0
}

// small folds one byte.
func small(c byte) byte {
	if c >= 'A' && c <= 'Z' {
		return c - 'A' + 'a'
	}
	return c
}

// blank: is it one of those that Trim takes away?
func blank(c byte) bool { return c == ' ' || c == '\t' }

// withoutReturn takes one byte 13 from a line's end, and no more.
func withoutReturn(line string) string {
	if last := len(line) - 1; last >= 0 && line[last] == '\r' {
		return line[:last]
	}
	return line
}

// plain: does it stand for itself in a Word?
func plain(c byte) bool { return c >= 33 && c <= 126 && c != '%' }

// unwordByte: the byte with which the text of a Word's rest begins, and how
// many bytes of the Word it takes: 0, if none begins so.
func unwordByte(rest string) (byte, int) {
	if plain(rest[0]) {
		return rest[0], 1
	}
	if rest[0] != '%' || len(rest) < 3 {
		return 0, 0
	}
	high, highOK := hexValue(rest[1])
	low, lowOK := hexValue(rest[2])
	c := high<<4 | low
	// A byte that stands for itself has no other form.
	if !highOK || !lowOK || plain(c) {
		return 0, 0
	}
	return c, 3
}

// hexValue: what one of the hexDigits counts.
func hexValue(c byte) (byte, bool) {
	switch {
	case c >= '0' && c <= '9':
		return c - '0', true
	case c >= 'A' && c <= 'F':
		return c - 'A' + 10, true
	}
	return 0, false
}
