package fetch_test

import (
	"strings"
	"testing"
)

// P18.1: Envelope

func TestEnvelope(t *testing.T) {
	wantEnvelope(t, "Date: today\r\nSubject: hello\r\nFrom: ann\r\nTo: bob\r\nMessage-ID: <1@x>\r\n\r\nText", `("today" "hello" "ann" "bob" "<1@x>")`)
	wantEnvelope(t, "message-id:5\nTO:4\nfrom:3\nsUBJECT:2\ndate:1\n\n", `("1" "2" "3" "4" "5")`)
	wantEnvelope(t, "Subject: a \"b\" \\\r\nFrom: \xe9\r\n\r\nhi", "(NIL \"a \\\"b\\\" \\\\\" {1}\r\n\xe9 NIL NIL)")
	wantEnvelope(t, "To: ann,\r\n\tbob\r\n cid\r\n\r\n", "(NIL NIL NIL {12}\r\nann,\tbob cid NIL)")
	wantEnvelope(t, "To: ann,\r\n bob\r\n\r\n", `(NIL NIL NIL "ann, bob" NIL)`)
	wantEnvelope(t, "Subject:\r\nTo: \r\nDate: \t \r\n\r\n", `("" "" NIL "" NIL)`)
	wantEnvelope(t, "Subject: NIL\n", `(NIL "NIL" NIL NIL NIL)`)
}

func TestEnvelopeOfNothing(t *testing.T) {
	for _, b := range []string{
		"", "\r\n", "\n", "\r\n\r\n", "x", "\r\n\r\nSubject: hello\r\n", "\nDate: today", "Subject", "Subject : hello\r\n\r\n", " Subject: hello\r\n",
		"Cc: ann\r\nBcc: bob\r\nReply-To: cid\r\nSender: dan\r\nIn-Reply-To: <1@x>\r\nMessageID: x\r\nMessage_ID: y\r\nMessage-I: z\r\nX-Date: today\r\n\r\n",
	} {
		wantEnvelope(t, b, "(NIL NIL NIL NIL NIL)")
	}
	if s := plainEnvelope(nil); s != "(NIL NIL NIL NIL NIL)" {
		t.Error(s)
	}
}

func TestEnvelopeTellsTheFirstField(t *testing.T) {
	wantEnvelope(t, "Subject: a\nsubject: b\nSUBJECT: c\n\nSubject: d", `(NIL "a" NIL NIL NIL)`)
	wantEnvelope(t, "To:\nTo: b\n\n", `(NIL NIL NIL "" NIL)`)
	wantEnvelope(t, "To: a\n \tb\nTo: c\nx\n To: d\n", "(NIL NIL NIL {4}\r\na \tb NIL)")
}

// Each field there or not.
func TestEnvelopeOfAllFields(t *testing.T) {
	names := []string{"Date", "Subject", "From", "To", "Message-ID"}
	for _, value := range []string{"", "x", `"`, `\`, "\x80", "a b", "a\tb", "a\rb"} {
		for which := range 1 << len(names) {
			octets, want := "", ""
			for i, name := range names {
				if which>>i&1 == 1 {
					octets = name + ": " + value + "\r\n" + octets
					want += " " + plainString(value)
				} else {
					want += " NIL"
				}
			}
			wantEnvelope(t, octets, "("+want[1:]+")")
			wantEnvelope(t, octets+"\r\nDate: no\r\nTo: no\r\n", "("+want[1:]+")")
		}
	}
}

// A byte more, or another, in a name or in a value.
func TestEnvelopeOfEveryByteAtEveryPlace(t *testing.T) {
	const octets = "Date: a\r\nMessage-ID: b\r\n c\r\n\r\nTo: d"
	for at := range len(octets) + 1 {
		for c := range 256 {
			b := string([]byte{byte(c)})
			with := octets[:at] + b + octets[at:]
			wantEnvelope(t, with, plainEnvelope([]byte(with)))
			if at < len(octets) {
				with = octets[:at] + b + octets[at+1:]
				wantEnvelope(t, with, plainEnvelope([]byte(with)))
			}
		}
	}
}

func TestEnvelopeOfLongValues(t *testing.T) {
	for _, n := range []int{1, 10, 998, 20000, 1 << 20} {
		x := strings.Repeat("x", n)
		wantEnvelope(t, "From: "+x+"\r\n\r\n", `(NIL NIL "`+x+`" NIL NIL)`)
		wantEnvelope(t, "From:"+strings.Repeat("\r\n "+x, 2)+"\r\n\r\n", `(NIL NIL "`+x+" "+x+`" NIL NIL)`)
	}
	wantEnvelope(t, strings.Repeat("From: "+strings.Repeat("x", 100)+"\r\n", 10000), `(NIL NIL "`+strings.Repeat("x", 100)+`" NIL NIL)`)
	wantEnvelope(t, strings.Repeat("X: y\r\n", 100000)+"To: ann", `(NIL NIL NIL "ann" NIL)`)
}
