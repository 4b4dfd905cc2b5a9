package dec

import (
	"math"
	"math/big"
	"regexp"
	"strings"
	"testing"

	"copse/api"
)

const (
	least    = math.MinInt64
	greatest = math.MaxInt64
)

// numbers are all small ones, and those at and beside each power of two, on both sides of 0.
func numbers() []int {
	list := []int{least, least + 1, least + 2, least + 255, least + 256, least + 257, greatest - 256, greatest - 255, greatest - 254, greatest - 1, greatest,
		123456789, -987654321, 0x0123456789abcdef, -0x0123456789abcdef}
	for n := -3000; n <= 3000; n++ {
		list = append(list, n)
	}
	for shift := 12; shift <= 62; shift++ {
		for _, times := range []int{1, 3, -1, -3} {
			n := times << shift
			list = append(list, n-255, n-128, n-1, n, n+1, n+128, n+255)
		}
	}
	for ten := 10; ten <= greatest>>api.Frac/10; ten *= 10 {
		n := ten << api.Frac
		list = append(list, n-256, n-1, n, n+1, -n-1, -n, -n+1)
	}
	return list
}

// exactText is n by 2^Frac by numbers without bounds: Frac decimals are enough of any part.
func exactText(n int) string {
	text := new(big.Rat).SetFrac(big.NewInt(int64(n)), big.NewInt(1<<api.Frac)).FloatString(api.Frac)
	return strings.TrimSuffix(strings.TrimRight(text, "0"), ".")
}

var form = regexp.MustCompile(`^-?(0|[1-9][0-9]*)(\.[0-9]*[1-9])?$`)

// numberOf is what Scan must tell of s, by the form that P3.1 says and numbers without bounds.
func numberOf(s string) (int, bool) {
	if s == "-0" || !form.MatchString(s) {
		return 0, false
	}
	value, ok := new(big.Rat).SetString(s)
	if !ok {
		return 0, false
	}
	value.Mul(value, big.NewRat(1<<api.Frac, 1))
	if !value.IsInt() || !value.Num().IsInt64() {
		return 0, false
	}
	return int(value.Num().Int64()), true
}

func holdScan(t *testing.T, s string) {
	t.Helper()
	want, wantOK := numberOf(s)
	if n, ok := Scan(s); n != want || ok != wantOK {
		t.Errorf("Scan(%q) = %d, %v, not %d, %v", s, n, ok, want, wantOK)
	}
}

func TestRunsOfTheChapter(t *testing.T) {
	for n, want := range map[int]string{384: "1.5", -1: "-0.00390625", -512: "-2"} {
		if s := Print(n); s != want {
			t.Errorf("Print(%d) = %q", n, s)
		}
	}
	if n, ok := Scan("1.5"); n != 384 || !ok {
		t.Errorf(`Scan("1.5") = %d, %v`, n, ok)
	}
	for _, s := range []string{"1.50", "-0", "0.1"} {
		if n, ok := Scan(s); n != 0 || ok {
			t.Errorf("Scan(%q) = %d, %v", s, n, ok)
		}
	}
}

func TestPrintWrittenOut(t *testing.T) {
	for n, want := range map[int]string{
		0: "0", 256: "1", -256: "-1", 2560: "10", -25600: "-100", 256 * 1020: "1020",
		128: "0.5", -128: "-0.5", 64: "0.25", 192: "0.75", 384: "1.5", -2624: "-10.25",
		1: "0.00390625", 2: "0.0078125", 4: "0.015625", 255: "0.99609375", 257: "1.00390625", -257: "-1.00390625",
		greatest: "36028797018963967.99609375", greatest - 255: "36028797018963967", greatest - 127: "36028797018963967.5",
		least: "-36028797018963968", least + 1: "-36028797018963967.99609375", least + 256: "-36028797018963967",
	} {
		if s := Print(n); s != want {
			t.Errorf("Print(%d) = %q, not %q", n, s, want)
		}
		if m, ok := Scan(want); m != n || !ok {
			t.Errorf("Scan(%q) = %d, %v, not %d", want, m, ok, n)
		}
	}
}

func TestPrintIsThatOfNumbersWithoutBounds(t *testing.T) {
	for _, n := range numbers() {
		if s := Print(n); s != exactText(n) {
			t.Errorf("Print(%d) = %q, not %q", n, s, exactText(n))
		}
	}
}

func TestWhatIsPrintedIsScanned(t *testing.T) {
	for _, n := range numbers() {
		if m, ok := Scan(Print(n)); m != n || !ok {
			t.Errorf("Scan(Print(%d)) = %d, %v", n, m, ok)
		}
	}
}

func TestScanOfTextsThatAreNoNumbers(t *testing.T) {
	for _, s := range []string{
		"", "-", ".", "-.", "+", " ", "\x00", "\xff", "a",
		"-0", "-0.0", "0.0", "00", "-00", "01", "-01", "00.5", "-00.5", "01.5",
		"1.", "-1.", "0.", ".5", "-.5", "1..5", "1.5.", "1.5.5", "..5",
		"1.0", "1.50", "1.00000000", "0.500", "0.003906250",
		"+1", "+0", "+1.5", "--1", "-+1", "1-", "1.-5", "1.+5", "1-5",
		" 1", "1 ", "1. 5", "1 .5", "\t1", "1\n", "1\x00", "1,5", "1_0", "1e2", "1E2", "0x1", "1a", "a1", "1.a", "NaN", "Inf", "٣", "1.٣", "½",
		"1.:", ":", "/", "0.:", "1/", "2/", "-/",
		"0.1", "0.2", "0.3", "0.001", "0.00390624", "0.00390626", "0.001953125", "0.99609374", "1.000000000000001",
	} {
		if n, ok := Scan(s); n != 0 || ok {
			t.Errorf("Scan(%q) = %d, %v", s, n, ok)
		}
	}
}

func TestScanBesideTheLeastAndTheGreatest(t *testing.T) {
	for _, s := range []string{
		"36028797018963968", "36028797018963968.00390625", "36028797018963968.5", "-36028797018963968.00390625", "-36028797018963969",
		"72057594037927936", "72057594037927937", "-72057594037927936", "-72057594037927937.5", "72057594037927937.5",
		"18446744073709551615", "18446744073709551616", "18446744073709551617", "18446744073709551617.5", "-18446744073709551617",
		"99999999999999999999999", "-99999999999999999999999", "340282366920938463463374607431768211457",
	} {
		if n, ok := Scan(s); n != 0 || ok {
			t.Errorf("Scan(%q) = %d, %v", s, n, ok)
		}
	}
}

func TestScanOfVeryLongTexts(t *testing.T) {
	const long = 1 << 20
	for _, s := range []string{
		strings.Repeat("9", long), "-" + strings.Repeat("1", long), strings.Repeat("0", long), strings.Repeat("0", long) + "1",
		"1" + strings.Repeat("0", long), "1." + strings.Repeat("0", long), "1.5" + strings.Repeat("0", long),
		"1." + strings.Repeat("0", long) + "5", "0." + strings.Repeat("9", long), strings.Repeat("-", long), strings.Repeat(".", long),
		strings.Repeat("1.5", long), strings.Repeat(" ", long) + "1", strings.Repeat("\xff", long), "0." + strings.Repeat("\xff", long),
	} {
		if n, ok := Scan(s); n != 0 || ok {
			t.Errorf("Scan(%q .. %d bytes) = %d, %v", s[:4], len(s), n, ok)
		}
	}
}

func TestScanOfAllShortTexts(t *testing.T) {
	const letters, longest = "-+.0125 :", 5
	texts := []string{""}
	for at := 0; at < len(texts); at++ {
		holdScan(t, texts[at])
		if len(texts[at]) == longest {
			continue
		}
		for i := range len(letters) {
			texts = append(texts, texts[at]+letters[i:i+1])
		}
	}
}

func TestScanOfAllDecimals(t *testing.T) {
	for _, head := range []string{"0.", "-0.", "7.", "-36028797018963967.", "36028797018963967."} {
		for n := range 10000 {
			digits := big.NewInt(int64(10000 + n)).String()[1:]
			for size := range 5 {
				holdScan(t, head+digits[:size])
			}
		}
	}
}

func TestScanBesideWhatIsPrinted(t *testing.T) {
	for _, n := range []int{0, 1, -1, 255, 384, -512, 257, 2560, -2624, 25600 + 64, greatest, least, least + 1, greatest - 255} {
		s := Print(n)
		for at := range len(s) + 1 {
			for c := range 256 {
				put := string([]byte{byte(c)})
				holdScan(t, s[:at]+put+s[at:])
				if at < len(s) {
					holdScan(t, s[:at]+put+s[at+1:])
				}
			}
			if at < len(s) {
				holdScan(t, s[:at]+s[at+1:])
				holdScan(t, s[:at])
			}
		}
	}
}
