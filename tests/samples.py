"""Lines as told, and lines that aren't: all the ways in which one can be wrong."""

SIX = "0-0:1,1-1:2,2-2:3,3-3:4,4-4:5,400-400:30"

RIGHT_WINDOWS = [
    "0-0:1", "400-400:30", "0-400:1", "1-2:3", "9-10:9", "99-100:10", "10-109:29",
    "1-2:3,4-5:6", "4-5:6,1-2:3", "1-9:3,2-3:4", "1-2:3,1-2:3", SIX,
]

WRONG_WINDOWS = [
    "", "1", "1-2", "1-2:", ":3", "1:3", "-:", "-2:3", "1-:3", "1--2:3", "1-2-3:3", "-1-2:3", "1-2::3", "1-2:3:4",
    "1:2-3", "01-2:3", "00-2:3", "1-02:3", "0-00:3", "1-2:03", "1-2:00", "001-2:3",
    "1-2:0", "1-2:31", "1-2:100", "1-2:1000", "1-2:001", "1-2:-3",
    "1000-1000:3", "1-1000:3", "0-0400:3", "401-401:3", "0-401:3", "0-999:3", "3-2:3", "400-399:1", "10-9:1",
    "1 -2:3", "1- 2:3", "1-2 :3", "1-2: 3", " 1-2:3", "1-2:3 ", "1-2:3 4-5:6", "1-2:3, 4-5:6", "1-2:3 ,4-5:6",
    ",", "1-2:3,", ",1-2:3", "1-2:3,,4-5:6", "1-2:3;4-5:6", "1-2:3,4-5", "1-2,4-5:6", "1-2:3.4-5:6",
    "+1-2:3", "x-2:3", "1-x:3", "1-2:x", "1-2x:3", "/-2:3", "1-/:3", "1-2:/", "1_2:3", "1-2=3", "\t1-2:3", "1-2:3\r",
    SIX + ",5-5:5", SIX.replace("400-400:30", "400-400:31"), SIX.replace("0-0:1", "0-0:0"),
    "1-2:3,3-2:3", "1-2:3,401-401:3", "1-2:3#", "1-2:3 #", "1-2:3\x00", "1-2:\xb3",
]

RIGHT_NAMES = ["A", "Z", "M", "ABCDEF", "A0", "A9", "Z99999", "AZ09ZA", "PP", "L", "N1"]

WRONG_NAMES = [
    "", "ABCDEFG", "A123456", "ABCDEFGHIJKLM", "0", "1A", "9", "a", "aB", "Ab", "Az", "z", "@", "[", "A@", "A[", "A/",
    "A:", "A-", "A_", "_A", "-A", "#A", "A#", "A.", "A\t", "\tA", "A\r", "A\x00", "\x00A", "A\x7f", "\xc1", "A\xc1",
]

RIGHT_STRETCHES = ["0-0", "400-400", "0-400", "9-10", "99-100", "7-8"]

WRONG_STRETCHES = [
    "", "1", "-", "1-", "-2", "1--2", "1-2-3", "-1-2", "01-2", "00-2", "1-02", "0-00", "1000-1000", "1-1000",
    "401-401", "0-401", "2-1", "400-399", "1-2:3", "1-2,3-4", "1-2,", "1:2", "1-x", "x-2", "1-:", "/-2", "1 -2", "1- 2",
    "1-2 ", " 1-2", "1-2 3", "1-2\t", "+1-2",
]

RIGHT_NOTES = [
    "", "#", "##", "# a note", "#P A", "# ", "#~", "# !\"#$&'()*+,-./0189:;<=>?@AZ[\\]^_`az{|}~", "#" + "x" * 59,
    "#" + " " * 59,
]

WRONG_NOTES = [
    "#" + "x" * 60, "#" + " " * 60, "#" + "x" * 190, "#\x1f", "#\x7f", "#\x80", "#\xff", "#\x00", "#\t", "#\r",
    "# a\x7fb", "#" + "x" * 58 + "\x7f", " ", "  ", " #", " # a note", "\t", "\r", "\x00", "a note", "~", "\xa3",
]

OTHER_WRONG_LINES = [
    "P", "P ", "PA", "P  A", " P A", "P A ", "P A B", "P A 1-2", "P\tA", "p A", "PP A", "Q A", "P,A", "A", "A P",
    "L", "L ", "L A", "L A ", "L A B", "L A B ", "LA B 1-2:3", "L AB 1-2:3", "L A B1-2:3", "LAB1-2:3",
    " L A B 1-2:3", "L  A B 1-2:3", "L A  B 1-2:3", "L A B  1-2:3", "L A B C 1-2:3", "L A 1-2:3", "L A B 1-2:3 C",
    "L A A 1-2:3", "L ABCDEF ABCDEF 1-2:3", "l A B 1-2:3", "LL A B 1-2:3", "L A,B 1-2:3", "L\tA B 1-2:3",
    "B", "B ", "B A", "B A ", "B A B", "B A B ", "BA B 1-2:3", "B AB 1-2:3", "B A B1-2:3", "BAB1-2:3",
    " B A B 1-2:3", "B  A B 1-2:3", "B A  B 1-2:3", "B A B  1-2:3", "B A B C 1-2:3", "B A 1-2:3", "B A B 1-2:3 C",
    "B A A 1-2:3", "B ABCDEF ABCDEF 1-2:3", "b A B 1-2:3", "BB A B 1-2:3", "B A-B 1-2:3", "B\tA B 1-2:3",
    "N", "N ", "N A", "N A ", "NA 1-2", "N A1-2", " N A 1-2", "N  A 1-2", "N A  1-2", "N A B 1-2", "N 1-2",
    "n A 1-2", "NN A 1-2", "N A 1-2 3-4", "N\tA 1-2", "LB A B 1-2:3", "X A B 1-2:3", "C A 1-2",
]


def right_lines():
    found = list(RIGHT_NOTES)
    for name in RIGHT_NAMES:
        found += [f"P {name}", f"L {name} OTHER 1-2:3", f"B OTHER {name} 1-2:3", f"N {name} 1-2"]
    for windows in RIGHT_WINDOWS:
        found += [f"L A B {windows}", f"B A B {windows}"]
    found += [f"N A {stretch}" for stretch in RIGHT_STRETCHES]
    return found


def wrong_lines():
    found = WRONG_NOTES + OTHER_WRONG_LINES
    for name in WRONG_NAMES:
        found += [f"P {name}", f"N {name} 1-2"]
        found += [f"{kind} {name} OTHER 1-2:3" for kind in "LB"]
        found += [f"{kind} OTHER {name} 1-2:3" for kind in "LB"]
    for windows in WRONG_WINDOWS:
        found += [f"L A B {windows}", f"B A B {windows}"]
    found += [f"N A {stretch}" for stretch in WRONG_STRETCHES]
    return found
