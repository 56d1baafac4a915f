package asm

import (
	"strings"

	"bulkhead/api"
)

// The bytes that a line may have, but for its comment.
const (
	blanks     = " \t\r"
	pieceBytes = "abcdefghijklmnopqrstuvwxyzABCDEFGHIJKLMNOPQRSTUVWXYZ0123456789_-"
	marks      = ":,"
)

// statement: what a line says: its label (empty: none), its operation (0: none), the pieces that are its operands.
type statement struct {
	label    string
	op       int
	operands []string
}

// partsOf parts a line into its pieces and marks, and leaves blanks and the comment out.
func partsOf(line string) []string {
	rest, _, _ := strings.Cut(line, ";")
	var parts []string
	for {
		rest = strings.TrimLeft(rest, blanks)
		if rest == "" {
			return parts
		}
		n := len(rest) - len(strings.TrimLeft(rest, pieceBytes))
		if n == 0 {
			n = 1
			if !isMark(rest[:n]) {
				giveUp(api.ErrAsmLine)
			}
		}
		parts = append(parts, rest[:n])
		rest = rest[n:]
	}
}

// isMark says whether a part, or a byte, is a mark.
func isMark(part string) bool { return strings.Contains(marks, part) }

// pieceOf is for a part where the form wants a piece.
func pieceOf(part string) string {
	if isMark(part) {
		giveUp(api.ErrAsmLine)
	}
	return part
}

// statementOf reads a line by its parts, without a look at what its label and its operands are: faults of the form come first.
func statementOf(parts []string) statement {
	s := statement{}
	if len(parts) > 1 && parts[1] == ":" {
		s.label = pieceOf(parts[0])
		parts = parts[2:]
	}
	if len(parts) == 0 {
		return s
	}
	op, ok := find(pieceOf(parts[0]))
	s.op, s.operands = op, piecesOf(parts[1:])
	if !ok || !takes(op, len(s.operands)) {
		giveUp(api.ErrAsmLine)
	}
	return s
}

// piecesOf reads pieces with a comma between each two.
func piecesOf(parts []string) []string {
	var pieces []string
	for i, part := range parts {
		if i%2 == 0 {
			pieces = append(pieces, pieceOf(part))
		} else if part != "," || i == len(parts)-1 {
			giveUp(api.ErrAsmLine)
		}
	}
	return pieces
}
