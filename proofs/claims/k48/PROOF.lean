import PyProof.Rows.All
import Wide.All
import OpenK.AllK
import Wide.FinOn
import Lean
import PyProof.EqAt
import PyProof.EqKinds
import PyProof.TupleCall
import PySem.Challenge.RW_fivefields_k48_whole_nested_times
set_option maxHeartbeats 4000000
set_option compiler.extract_closed false
namespace Hd
open PySem PySem.W PySem.Calls PyProof.Rows
section
set_option maxHeartbeats 0
set_option maxRecDepth 100000
set_option linter.all false
noncomputable section
noncomputable abbrev pw:Program:=PySem.Challenge.pw_fivefields_k48_whole_nested_times
noncomputable abbrev bi:List Stmt:=behindTheImports pw
noncomputable def nth:List Stmt->Nat->Stmt
 |s::_,0=>s
 |_::r,n+1=>nth r n
 |[],_=>.Pass default
noncomputable def tp(i:Nat):Stmt:=nth pw.main.body i
noncomputable def bd:Stmt->List Stmt
 |.FunctionDef _ _ b _ _ _ _ _ _ _=>b
 |.ClassDef _ _ _ b _ _ _ _ _ _ _=>b
 |_=>[]
noncomputable def ag:Stmt->Arguments
 |.FunctionDef _ a _ _ _ _ _ _ _ _=>a
 |_=>⟨[],[],none,[],[],none,[]⟩
noncomputable def sc:Stmt->Scope
 |.FunctionDef _ _ _ _ _ _ s _ _ _=>s
 |.ClassDef _ _ _ _ _ _ s _ _ _ _=>s
 |_=>pw.main.scope
noncomputable def r(a:Addr):Value:=.ref a
noncomputable def i(n:Int):Value:=.int n 0
noncomputable def de(P:Params)(k:Str)(t:Tok)(v:Value):DictEntry:=⟨PyData.keyHash P k,.str k t,v⟩
noncomputable def tu(l:List Value):Obj:=⟨.type "tuple",none,.seq l.toArray 0,#[]⟩
noncomputable def di(l:List DictEntry)(n:Nat):Obj:=⟨.type "dict",none,.dict l.toArray n,#[]⟩
noncomputable def co(l:List Value):Obj:=⟨.type "code",none,.fields l.toArray,#[]⟩
noncomputable def fd(l:List Value):Obj:=⟨.none,none,.fields l.toArray,#[]⟩
noncomputable def lf(x:Obj):BT:=.node x .nil .nil
noncomputable abbrev nd:Obj->BT->BT->BT:=BT.node
noncomputable def sf(t:Tok):Value:=.str "/claim/cut.py" t
noncomputable def fz(n q:Str)(s:Stmt):Obj:=⟨.none,none,.func ⟨n,q,ag s,.stmts (bd s),sc s,0,[],.none,.none,.none,.none,none,.none,.none,0⟩,#[]⟩
noncomputable def fn(n q:Str)(s:Stmt)(g:Addr)(c:List (Str×Addr))(d k o m:Value)(a:Option Addr)(x y:Value)(b:Addr):Obj:=⟨.type "function",none,.func ⟨n,q,ag s,.stmts (bd s),sc s,g,c,d,k,o,m,a,x,y,b⟩,#[]⟩
noncomputable def ib(s:Stmt)(i:Nat):Stmt:=nth (bd s) i
noncomputable def ev:Env:={scope:=pw.main.scope,locals:=mainNs,globals:=mainNs,cells:=[],code:=(r 13),frame:=some 14}
noncomputable def cd:Code:=.body bi ev
noncomputable abbrev an:Option Value:=(some (r 6))
noncomputable abbrev bk:List Frame:=[topFrame ⟨0,0,0,0⟩]
def o0:Obj:=tu []
def o1:Obj:=fd []
def o2:Obj:=co [(.str "<module>" 182),(.str "<module>" 183),(sf 184),(i 1),(i 0),(i 0),(i 0),(i 0),(r 11),(.bool false),(i 181),(r 12),.none,.none,.none,.none,(i 185),(i 1),(sf 186)]
def o3:Obj:=⟨(.type "frame"),none,.plain,#[(some (r 13)),(some (r 3)),(some (r 3)),none,(some (.str "__main__" 164)),none,(some (r 0))]⟩
def hA(P:Params):Heap:=⟨⟨[(boot_o_0 P),(boot_o_1 P),(boot_o_2 P),(boot_o_3 P),(boot_o_4 P),(boot_o_5 P),(boot_o_6 P),(boot_o_7 P),(boot_o_8 P),(boot_o_9 P),(boot_o_10 P),o0,o1,o2,o3]⟩,⟨[],[],[],0,[],[],false,#[],[],0,false,false,false,0,[2000,10,10],false,0,true,[],[],0,false⟩⟩
def sA(w:World)(os:OsState):Shared:=⟨hA w.params,#[],⟨0,0,0,0⟩,187,os⟩
theorem pre(w:World)(os:OsState):
  topGo treeTable pw w 11 an 12 ⟨boot_heap w.params,⟨[]⟩,boot_drawn,boot_toks,os⟩ (topStub pw) =
  some (sA w os,⟨denote treeTable cd,cd,⟨0,0,0,0⟩,bk⟩):=by kernel_rfl
def t0(P:Params):BT:=(nd (boot_o_0 P) (nd (boot_o_1 P) (nd (boot_o_3 P) (lf (boot_o_7 P)) (lf o0)) (nd (boot_o_5 P) (lf (boot_o_9 P)) (lf o2))) (nd (boot_o_2 P) (nd (boot_o_4 P) (lf (boot_o_8 P)) (lf o1)) (nd (boot_o_6 P) (lf (boot_o_10 P)) (lf o3))))
def s0(w:World)(os:OsState):SharedT:=⟨t0 w.params,15,⟨[],[],[],0,[],[],false,#[],[],0,false,false,false,0,[2000,10,10],false,0,true,[],[],0,false⟩,#[],⟨0,0,0,0⟩,187,os⟩
theorem blk(w:World)(os:OsState):
  segRun treeTable pw w 11 an 1 1 (sA w os) (blockOf bi ev cd ⟨0,0,0,0⟩ bk) =
  some (.next,(s0 w os).abs,cd,⟨0,0,0,0⟩):=by kernel_rfl
def o4(P:Params):Obj:=di [(de P "__name__" 165 (.str "law_fivefields_k48_whole_nested_times" 314)),(de P "__doc__" 166 .none),(de P "__package__" 167 .none),(de P "__loader__" 168 (.builtin "__main__.__loader__#opaque")),(de P "__spec__" 169 .none),(de P "__annotations__" 170 (r 6)),(de P "__builtins__" 171 (r 4)),(de P "__file__" 173 (sf 172)),(de P "__cached__" 174 .none),(de P "has" 196 (r 21)),(de P "lowest" 203 (r 28)),(de P "mask_of" 214 (r 35)),(de P "numbers_in" 220 (r 40)),(de P "HOUR_MINUTES" 222 (.int 60 221)),(de P "DAY_HOURS" 226 (.int 24 225)),(de P "hours_masks" 232 (r 45)),(de P "turned_masks" 238 (r 50)),(de P "lies_within" 246 (r 57)),(de P "made_within" 256 (r 64)),(de P "not_made" 262 (r 69)),(de P "places_around" 268 (r 74)),(de P "fewer_rows" 274 (r 79)),(de P "own_pair" 283 (r 86)),(de P "candidates" 289 (r 91)),(de P "fit_one_row" 298 (r 98)),(de P "apart_pairs" 304 (r 103)),(de P "rows_for" 313 (r 110)),(de P "_law_cell_at" 323 (r 117)),(de P "_law_stir" 332 (r 124)),(de P "_law_digits" 343 (r 131)),(de P "_law_whole" 350 (r 138)),(de P "_law_parts" 356 (r 143)),(de P "_law_masks" 362 (r 148)),(de P "_law_lone" 371 (r 155)),(de P "law" 377 (r 160))] 35
def o5:Obj:=fd [(i 2),(i 0),(r 20),(i 4),(i 0),(r 27),(i 7),(i 0),(r 34),(i 12),(i 0),(r 39),(i 17),(i 0),(r 44),(i 20),(i 0),(r 49),(i 22),(i 0),(r 56),(i 24),(i 0),(r 63),(i 30),(i 0),(r 68),(i 32),(i 0),(r 73),(i 34),(i 0),(r 78),(i 38),(i 0),(r 85),(i 41),(i 0),(r 90),(i 46),(i 0),(r 97),(i 48),(i 0),(r 102),(i 54),(i 0),(r 109),(i 59),(i 0),(r 116),(i 63),(i 0),(r 123),(i 67),(i 0),(r 130),(i 78),(i 0),(r 137),(i 80),(i 0),(r 142),(i 88),(i 0),(r 147),(i 93),(i 0),(r 154),(i 95),(i 0),(r 159)]
def o6:Obj:=tu [(.str "mask" 192),(.str "number" 193)]
def o7:Obj:=fz "has" "has" (tp 1)
def o8:Obj:=co [(.str "has" 189),(.str "has" 190),(sf 191),(i 2),(i 2),(i 0),(i 0),(i 3),(r 15),(.bool true),(i 181),(r 16),.none,(r 17),(r 18),(r 19),(i 194),(i 2),(sf 195)]
def o9:Obj:=fn "has" "has" (tp 1) 3 [] .none .none .none (.str "fivefields.ranges" 187) none (r 20) .none 0
def o10:Obj:=tu [(.str "mask" 200)]
def o11:Obj:=fz "lowest" "lowest" (tp 2)
def o12:Obj:=co [(.str "lowest" 197),(.str "lowest" 198),(sf 199),(i 4),(i 1),(i 0),(i 0),(i 3),(r 22),(.bool true),(i 181),(r 23),.none,(r 24),(r 25),(r 26),(i 201),(i 4),(sf 202)]
def o13:Obj:=fn "lowest" "lowest" (tp 2) 3 [] .none .none .none (.str "fivefields.ranges" 187) none (r 27) .none 0
def o14:Obj:=tu [(.str "numbers" 209),(.str "mask" 210),(.str "number" 211)]
def o15:Obj:=fz "mask_of" "mask_of" (tp 4)
def o16:Obj:=co [(.str "mask_of" 206),(.str "mask_of" 207),(sf 208),(i 7),(i 1),(i 0),(i 0),(i 3),(r 29),(.bool true),(i 181),(r 30),.none,(r 31),(r 32),(r 33),(i 212),(i 7),(sf 213)]
def o17:Obj:=fn "mask_of" "mask_of" (tp 4) 3 [] .none .none .none (.str "fivefields.fields" 204) none (r 34) .none 0
def o18:Obj:=fz "numbers_in" "numbers_in" (tp 5)
def o19:Obj:=co [(.str "numbers_in" 215),(.str "numbers_in" 216),(sf 217),(i 12),(i 1),(i 0),(i 0),(i 3),(r 36),(.bool true),(i 181),(r 37),.none,.none,.none,(r 38),(i 218),(i 12),(sf 219)]
def o20:Obj:=fn "numbers_in" "numbers_in" (tp 5) 3 [] .none .none .none (.str "fivefields.fields" 204) none (r 39) .none 0
def o21:Obj:=fz "hours_masks" "hours_masks" (tp 9)
def o22:Obj:=co [(.str "hours_masks" 227),(.str "hours_masks" 228),(sf 229),(i 17),(i 1),(i 0),(i 0),(i 3),(r 41),(.bool true),(i 181),(r 42),.none,.none,.none,(r 43),(i 230),(i 17),(sf 231)]
def o23:Obj:=fn "hours_masks" "hours_masks" (tp 9) 3 [] .none .none .none (.str "fivefields.few" 223) none (r 44) .none 0
def o24:Obj:=fz "turned_masks" "turned_masks" (tp 10)
def o25:Obj:=co [(.str "turned_masks" 233),(.str "turned_masks" 234),(sf 235),(i 20),(i 2),(i 0),(i 0),(i 3),(r 46),(.bool true),(i 181),(r 47),.none,.none,.none,(r 48),(i 236),(i 20),(sf 237)]
def o26:Obj:=fn "turned_masks" "turned_masks" (tp 10) 3 [] .none .none .none (.str "fivefields.few" 223) none (r 49) .none 0
def o27:Obj:=tu [(.str "mask" 242),(.str "other" 243)]
def o28:Obj:=fz "lies_within" "lies_within" (tp 11)
def o29:Obj:=co [(.str "lies_within" 239),(.str "lies_within" 240),(sf 241),(i 22),(i 2),(i 0),(i 0),(i 3),(r 51),(.bool true),(i 181),(r 52),.none,(r 53),(r 54),(r 55),(i 244),(i 22),(sf 245)]
def o30:Obj:=fn "lies_within" "lies_within" (tp 11) 3 [] .none .none .none (.str "fivefields.few" 223) none (r 56) .none 0
def o31:Obj:=tu [(.str "mask" 250),(.str "masks" 251),(.str "together" 252),(.str "other" 253)]
def o32:Obj:=fz "made_within" "made_within" (tp 12)
def o33:Obj:=co [(.str "made_within" 247),(.str "made_within" 248),(sf 249),(i 24),(i 2),(i 0),(i 0),(i 3),(r 58),(.bool true),(i 181),(r 59),.none,(r 60),(r 61),(r 62),(i 254),(i 24),(sf 255)]
def o34:Obj:=fn "made_within" "made_within" (tp 12) 3 [] .none .none .none (.str "fivefields.few" 223) none (r 63) .none 0
def o35:Obj:=fz "not_made" "not_made" (tp 13)
def o36:Obj:=co [(.str "not_made" 257),(.str "not_made" 258),(sf 259),(i 30),(i 1),(i 0),(i 0),(i 3),(r 65),(.bool true),(i 181),(r 66),.none,.none,.none,(r 67),(i 260),(i 30),(sf 261)]
def o37:Obj:=fn "not_made" "not_made" (tp 13) 3 [] .none .none .none (.str "fivefields.few" 223) none (r 68) .none 0
def o38:Obj:=fz "places_around" "places_around" (tp 14)
def o39:Obj:=co [(.str "places_around" 263),(.str "places_around" 264),(sf 265),(i 32),(i 2),(i 0),(i 0),(i 3),(r 70),(.bool true),(i 181),(r 71),.none,.none,.none,(r 72),(i 266),(i 32),(sf 267)]
def o40:Obj:=fn "places_around" "places_around" (tp 14) 3 [] .none .none .none (.str "fivefields.few" 223) none (r 73) .none 0
def o41:Obj:=fz "fewer_rows" "fewer_rows" (tp 15)
def o42:Obj:=co [(.str "fewer_rows" 269),(.str "fewer_rows" 270),(sf 271),(i 34),(i 2),(i 0),(i 0),(i 3),(r 75),(.bool true),(i 181),(r 76),.none,.none,.none,(r 77),(i 272),(i 34),(sf 273)]
def o43:Obj:=fn "fewer_rows" "fewer_rows" (tp 15) 3 [] .none .none .none (.str "fivefields.few" 223) none (r 78) .none 0
def o44:Obj:=tu [(.str "mask" 278),(.str "by_hour" 279),(.str "own" 280)]
def o45:Obj:=fz "own_pair" "own_pair" (tp 16)
def o46:Obj:=co [(.str "own_pair" 275),(.str "own_pair" 276),(sf 277),(i 38),(i 2),(i 0),(i 0),(i 3),(r 80),(.bool true),(i 181),(r 81),.none,(r 82),(r 83),(r 84),(i 281),(i 38),(sf 282)]
def o47:Obj:=fn "own_pair" "own_pair" (tp 16) 3 [] .none .none .none (.str "fivefields.few" 223) none (r 85) .none 0
def o48:Obj:=fz "candidates" "candidates" (tp 17)
def o49:Obj:=co [(.str "candidates" 284),(.str "candidates" 285),(sf 286),(i 41),(i 1),(i 0),(i 0),(i 3),(r 87),(.bool true),(i 181),(r 88),.none,.none,.none,(r 89),(i 287),(i 41),(sf 288)]
def o50:Obj:=fn "candidates" "candidates" (tp 17) 3 [] .none .none .none (.str "fivefields.few" 223) none (r 90) .none 0
def o51:Obj:=tu [(.str "pair" 293),(.str "other" 294),(.str "by_hour" 295)]
def o52:Obj:=fz "fit_one_row" "fit_one_row" (tp 18)
def o53:Obj:=co [(.str "fit_one_row" 290),(.str "fit_one_row" 291),(sf 292),(i 46),(i 3),(i 0),(i 0),(i 3),(r 92),(.bool true),(i 181),(r 93),.none,(r 94),(r 95),(r 96),(i 296),(i 46),(sf 297)]
def o54:Obj:=fn "fit_one_row" "fit_one_row" (tp 18) 3 [] .none .none .none (.str "fivefields.few" 223) none (r 97) .none 0
def o55:Obj:=fz "apart_pairs" "apart_pairs" (tp 19)
def o56:Obj:=co [(.str "apart_pairs" 299),(.str "apart_pairs" 300),(sf 301),(i 48),(i 1),(i 0),(i 0),(i 3),(r 99),(.bool true),(i 181),(r 100),.none,.none,.none,(r 101),(i 302),(i 48),(sf 303)]
def o57:Obj:=fn "apart_pairs" "apart_pairs" (tp 19) 3 [] .none .none .none (.str "fivefields.few" 223) none (r 102) .none 0
def o58:Obj:=tu [(.str "times" 308),(.str "by_hour" 309),(.str "by_minute" 310)]
def o59:Obj:=fz "rows_for" "rows_for" (tp 20)
def o60:Obj:=co [(.str "rows_for" 305),(.str "rows_for" 306),(sf 307),(i 54),(i 1),(i 0),(i 0),(i 3),(r 104),(.bool true),(i 181),(r 105),.none,(r 106),(r 107),(r 108),(i 311),(i 54),(sf 312)]
def o61:Obj:=fn "rows_for" "rows_for" (tp 20) 3 [] .none .none .none (.str "fivefields.few" 223) none (r 109) .none 0
def o62:Obj:=tu [(.str "_law_script" 319),(.str "_law_k" 320)]
def o63:Obj:=fz "_law_cell_at" "_law_cell_at" (tp 22)
def o64:Obj:=co [(.str "_law_cell_at" 316),(.str "_law_cell_at" 317),(sf 318),(i 59),(i 2),(i 0),(i 0),(i 3),(r 111),(.bool true),(i 181),(r 112),.none,(r 113),(r 114),(r 115),(i 321),(i 59),(sf 322)]
def o65:Obj:=fn "_law_cell_at" "_law_cell_at" (tp 22) 3 [] .none .none .none (.str "law_fivefields_k48_whole_nested_times" 314) none (r 116) .none 0
def o66:Obj:=tu [(.str "_law_number" 327),(.str "_law_first" 328),(.str "_law_second" 329)]
def o67:Obj:=fz "_law_stir" "_law_stir" (tp 23)
def o68:Obj:=co [(.str "_law_stir" 324),(.str "_law_stir" 325),(sf 326),(i 63),(i 1),(i 0),(i 0),(i 3),(r 118),(.bool true),(i 181),(r 119),.none,(r 120),(r 121),(r 122),(i 330),(i 63),(sf 331)]
def o69:Obj:=fn "_law_stir" "_law_stir" (tp 23) 3 [] .none .none .none (.str "law_fivefields_k48_whole_nested_times" 314) none (r 123) .none 0
def o70:Obj:=tu [(.str "_law_cell" 336),(.str "_law_sizes" 337),(.str "_law_mixed" 338),(.str "_law_found" 339),(.str "_law_size" 340)]
def o71:Obj:=fz "_law_digits" "_law_digits" (tp 24)
def o72:Obj:=co [(.str "_law_digits" 333),(.str "_law_digits" 334),(sf 335),(i 67),(i 3),(i 0),(i 0),(i 3),(r 125),(.bool true),(i 181),(r 126),.none,(r 127),(r 128),(r 129),(i 341),(i 67),(sf 342)]
def o73:Obj:=fn "_law_digits" "_law_digits" (tp 24) 3 [] .none .none .none (.str "law_fivefields_k48_whole_nested_times" 314) none (r 130) .none 0
def o74:Obj:=tu [(.str "_law_found" 347)]
def o75:Obj:=fz "_law_whole" "_law_whole" (tp 25)
def o76:Obj:=co [(.str "_law_whole" 344),(.str "_law_whole" 345),(sf 346),(i 78),(i 1),(i 0),(i 0),(i 3),(r 132),(.bool true),(i 181),(r 133),.none,(r 134),(r 135),(r 136),(i 348),(i 78),(sf 349)]
def o77:Obj:=fn "_law_whole" "_law_whole" (tp 25) 3 [] .none .none .none (.str "law_fivefields_k48_whole_nested_times" 314) none (r 137) .none 0
def o78:Obj:=fz "_law_parts" "_law_parts" (tp 26)
def o79:Obj:=co [(.str "_law_parts" 351),(.str "_law_parts" 352),(sf 353),(i 80),(i 4),(i 0),(i 0),(i 3),(r 139),(.bool true),(i 181),(r 140),.none,.none,.none,(r 141),(i 354),(i 80),(sf 355)]
def o80:Obj:=fn "_law_parts" "_law_parts" (tp 26) 3 [] .none .none .none (.str "law_fivefields_k48_whole_nested_times" 314) none (r 142) .none 0
def o81:Obj:=fz "_law_masks" "_law_masks" (tp 27)
def o82:Obj:=co [(.str "_law_masks" 357),(.str "_law_masks" 358),(sf 359),(i 88),(i 2),(i 0),(i 0),(i 3),(r 144),(.bool true),(i 181),(r 145),.none,.none,.none,(r 146),(i 360),(i 88),(sf 361)]
def o83:Obj:=fn "_law_masks" "_law_masks" (tp 27) 3 [] .none .none .none (.str "law_fivefields_k48_whole_nested_times" 314) none (r 147) .none 0
def o84:Obj:=tu [(.str "_law_masks_here" 366),(.str "_law_one" 367),(.str "_law_other" 368)]
def o85:Obj:=fz "_law_lone" "_law_lone" (tp 28)
def o86:Obj:=co [(.str "_law_lone" 363),(.str "_law_lone" 364),(sf 365),(i 93),(i 3),(i 0),(i 0),(i 3),(r 149),(.bool true),(i 181),(r 150),.none,(r 151),(r 152),(r 153),(i 369),(i 93),(sf 370)]
def o87:Obj:=fn "_law_lone" "_law_lone" (tp 28) 3 [] .none .none .none (.str "law_fivefields_k48_whole_nested_times" 314) none (r 154) .none 0
def o88:Obj:=fz "law" "law" (tp 29)
def o89:Obj:=co [(.str "law" 372),(.str "law" 373),(sf 374),(i 95),(i 1),(i 0),(i 0),(i 3),(r 156),(.bool true),(i 181),(r 157),.none,.none,.none,(r 158),(i 375),(i 95),(sf 376)]
def o90:Obj:=fn "law" "law" (tp 29) 3 [] .none .none .none (.str "law_fivefields_k48_whole_nested_times" 314) none (r 159) .none 0
def t1(P:Params):BT:=(nd (boot_o_0 P) (nd (boot_o_1 P) (nd (o4 P) (nd (boot_o_7 P) (nd o0 (nd o14 (nd o33 (lf o70) .nil) (nd o0 (lf o89) .nil)) (nd o1 (nd o43 (lf o80) .nil) (lf o0))) (nd o1 (nd o19 (nd o1 (lf o0) .nil) (lf o57)) (nd o28 (nd o0 (lf o84) .nil) (lf o1)))) (nd o0 (nd o7 (nd o17 (nd o35 (lf o73) .nil) (lf o0)) (nd o0 (nd o0 (lf o82) .nil) (lf o63))) (nd o12 (nd o21 (nd o0 (lf o0) .nil) (lf o0)) (nd o1 (nd o50 (lf o87) .nil) (lf o68))))) (nd (boot_o_5 P) (nd (boot_o_9 P) (nd o6 (nd o15 (nd o0 (lf o71) .nil) (lf o53)) (nd o25 (nd o1 (lf o1) .nil) (lf o62))) (nd o0 (nd o0 (nd o39 (lf o76) .nil) (lf o1)) (nd o30 (nd o48 (lf o85) .nil) (lf o0)))) (nd o2 (nd o9 (nd o1 (nd o37 (lf o1) .nil) (lf o55)) (nd o27 (nd o46 (lf o0) .nil) (lf o65))) (nd o0 (nd o23 (nd o41 (lf o78) .nil) (lf o60)) (nd o0 (nd o1 (lf o1) .nil) (lf o0)))))) (nd (boot_o_2 P) (nd (boot_o_4 P) (nd (boot_o_8 P) (nd o1 (nd o0 (nd o34 (lf o0) .nil) (nd o52 (lf o90) .nil)) (nd o24 (nd o0 (lf o0) .nil) (lf o1))) (nd o10 (nd o20 (nd o38 (lf o75) .nil) (lf o0)) (nd o29 (nd o1 (lf o0) .nil) (lf o66)))) (nd o5 (nd o8 (nd o0 (nd o36 (lf o0) .nil) (lf o1)) (nd o1 (nd o45 (lf o83) .nil) (lf o64))) (nd o13 (nd o22 (nd o1 (lf o1) .nil) (lf o59)) (nd o31 (nd o0 (lf o0) .nil) (lf o69))))) (nd (boot_o_6 P) (nd (boot_o_10 P) (nd o0 (nd o16 (nd o1 (lf o72) .nil) (lf o54)) (nd o26 (nd o44 (lf o81) .nil) (lf o0))) (nd o11 (nd o1 (nd o40 (lf o77) .nil) (lf o58)) (nd o0 (nd o49 (lf o86) .nil) (lf o67)))) (nd o3 (nd o0 (nd o18 (nd o0 (lf o74) .nil) (lf o56)) (nd o0 (nd o47 (lf o1) .nil) (lf o0))) (nd o1 (nd o0 (nd o42 (lf o79) .nil) (lf o61)) (nd o32 (nd o51 (lf o88) .nil) (lf o1)))))))
def s1(w:World)(os:OsState):SharedT:=⟨t1 w.params,161,⟨[],[],[],0,[],[],false,#[],[],0,false,false,false,0,[2000,10,10],false,0,true,[],[],0,false⟩,#[],⟨0,0,0,0⟩,378,os⟩
def l0:List Stmt:=(bi.drop 0).take 30
theorem r0(w:World)(os:OsState):
  segRunT treeTable pw w 11 an 1 740 (s0 w os) (piecesOf l0 ev cd ⟨0,0,0,0⟩ bk) =
  some (.next,s1 w os,cd,⟨95,0,114,15⟩):=by kernel_rfl
def hF(P:Params):Heap:=⟨⟨[(boot_o_0 P),(boot_o_1 P),(boot_o_2 P),(o4 P),(boot_o_4 P),(boot_o_5 P),(boot_o_6 P),(boot_o_7 P),(boot_o_8 P),(boot_o_9 P),(boot_o_10 P),o0,o5,o2,o3,o0,o1,o6,o0,o7,o8,o9,o0,o1,o10,o0,o11,o12,o13,o0,o1,o14,o0,o15,o16,o17,o0,o1,o18,o19,o20,o0,o1,o21,o22,o23,o0,o1,o24,o25,o26,o0,o1,o27,o0,o28,o29,o30,o0,o1,o31,o0,o32,o33,o34,o0,o1,o35,o36,o37,o0,o1,o38,o39,o40,o0,o1,o41,o42,o43,o0,o1,o44,o0,o45,o46,o47,o0,o1,o48,o49,o50,o0,o1,o51,o0,o52,o53,o54,o0,o1,o55,o56,o57,o0,o1,o58,o0,o59,o60,o61,o0,o1,o62,o0,o63,o64,o65,o0,o1,o66,o0,o67,o68,o69,o0,o1,o70,o0,o71,o72,o73,o0,o1,o74,o0,o75,o76,o77,o0,o1,o78,o79,o80,o0,o1,o81,o82,o83,o0,o1,o84,o0,o85,o86,o87,o0,o1,o88,o89,o90]⟩,⟨[],[],[],0,[],[],false,#[],[],0,false,false,false,0,[2000,10,10],false,0,true,[],[],0,false⟩⟩
def sF(w:World)(os:OsState):Shared:=⟨hF w.params,#[],⟨0,0,0,0⟩,378,os⟩
theorem fin(w:World)(os:OsState):
  topRun treeTable pw w 11 an 2 (s1 w os).abs (restOf [] ev cd ⟨95,0,114,15⟩ bk) =
  some (sF w os):=by kernel_rfl
theorem bis:bi=(l0++[]):=by kernel_rfl
theorem run(w:World)(os:OsState):topRun treeTable pw w 11 an (12+(1+(740+(2)))) ⟨boot_heap w.params,⟨[]⟩,boot_drawn,boot_toks,os⟩ (topStub pw)=some (sF w os):=by
 refine go_top (pre w os) (piece_block (blk w os) ?_)
 rw[bis]
 exact (piece_app (segRun_of (r0 w os)) (fin w os))
theorem opn:∀w:World,(fencedOpening treeTable pw w 1604).map (fun s=>(s.heap,s.gens,s.drawn,s.toks))=some (boot_heap w.params,⟨[]⟩,boot_drawn,boot_toks):=
 boot_open (by kernel_rfl) rfl (fun s=>by kernel_rfl)
theorem siz(w:World):((boot_heap w.params).isNs mainGlobals&&(⟨[]⟩:Array GenState).size==0,(boot_heap w.params).objs.size,(boot_heap w.params).nsMap mainGlobals "__annotations__")=(true,11,an):=by kernel_rfl
end
end
theorem aq4{q:Program}{loose mods:List Str}{Xt:Shared->Bool}{s:Shared}
  (e1:seen ((recsOf q).map (·.name)) (ownsOf q) [] {s with gens:= #[]}=expectedOf q) (e2:s.heap.bltView=bltViewBooted)
  (a1:s.heap.keysOk (looseW q loose) ((recsOf q).map (·.name)) ((litsOf q).map (·.1)) ((clssOf q (looseW q loose)).map (·.name))=true)
  (a2:s.heap.accountedOkI mods=true) (a3:s.heap.isNs mainGlobals=true) (a4:s.heap.isNs builtinsNs=true)
  (a5:tablesOk q s.heap=true) (a6:Xt s=true) (a7:(s.gens.size==0)=true) (e4:tabsOk q s=true)
  (e5:pinSeenD q (drecsOf q) s=pinGoodD (drecsOf q)) (e6:plainSeenE q (looseW q loose) s=plainGoodE q (looseW q loose))
  (e7:plainSeenD q loose s=plainGoodD q loose) (e8:wideSeen q s=wideGood q) (e9:clsSeenW q loose s=clsGoodW q loose):
  openSeen q loose mods Xt true s=openGood q loose:=by
 unfold openSeen openGood
 rw[e1,e2,a1,a2,a3,a4,a5,a6,if_pos rfl,a7,e4,e5,e6,e7,e8,e9];rfl
noncomputable def seenBy:Program:=view PySem.Challenge.pw_fivefields_k48_whole_nested_times [1,2,4,5,6,8,9,10,11,12,13,14,15,16,17,18,19,20,22,23,24,25,26,27,28,29]
noncomputable def free:List Str:=[]
noncomputable def read:List (Str×WData):=[]
section
set_option maxHeartbeats 0
set_option maxRecDepth 100000
noncomputable section
def XT:Shared->Bool:=fun z=>xlAt seenBy read z&&recOk (RowW.records (OpenRow.toRowW (OpenLaw.row PySem.Challenge.rw_fivefields_k48_whole_nested_times))) z
abbrev SE(w:World)(os:OsState):=openSeen seenBy free (importedModules pw.main.body) XT true (sF w os)
section
variable(w:World)(os:OsState)
theorem z1:seen ((recsOf seenBy).map (·.name)) (ownsOf seenBy) [] {sF w os with gens:= #[]}=expectedOf seenBy:=by kernel_rfl
theorem z2:(sF w os).heap.bltView=bltViewBooted:=by kernel_rfl
theorem y1:(sF w os).heap.keysOk (looseW seenBy free) ((recsOf seenBy).map (·.name)) ((litsOf seenBy).map (·.1)) ((clssOf seenBy (looseW seenBy free)).map (·.name))=true:=by kernel_rfl
theorem y2:(sF w os).heap.accountedOkI (importedModules pw.main.body)=true:=by kernel_rfl
theorem y3:(sF w os).heap.isNs mainGlobals=true:=by kernel_rfl
theorem y4:(sF w os).heap.isNs builtinsNs=true:=by kernel_rfl
theorem y5:tablesOk seenBy (sF w os).heap=true:=by kernel_rfl
theorem y6:XT (sF w os)=true:=by kernel_rfl
theorem y7:((sF w os).gens.size==0)=true:=by kernel_rfl
theorem z4:tabsOk seenBy (sF w os)=true:=by kernel_rfl
theorem z5:pinSeenD seenBy (drecsOf seenBy) (sF w os)=pinGoodD (drecsOf seenBy):=by kernel_rfl
theorem z6:plainSeenE seenBy (looseW seenBy free) (sF w os)=plainGoodE seenBy (looseW seenBy free):=by kernel_rfl
theorem z7:plainSeenD seenBy free (sF w os)=plainGoodD seenBy free:=by kernel_rfl
theorem z8:wideSeen seenBy (sF w os)=wideGood seenBy:=by kernel_rfl
theorem z9:clsSeenW seenBy free (sF w os)=clsGoodW seenBy free:=by kernel_rfl
theorem look:SE w os=openGood seenBy free:=aq4 (q:=seenBy) (loose:=free) (mods:=importedModules pw.main.body) (Xt:=XT) (s:=sF w os) (z1 w os) (z2 w os) (y1 w os) (y2 w os) (y3 w os) (y4 w os) (y5 w os) (y6 w os) (y7 w os) (z4 w os) (z5 w os) (z6 w os) (z7 w os) (z8 w os) (z9 w os)
end
theorem lk0(w:World)(os:OsState):(staticsOk (importedModules pw.main.body) (boot_heap w.params) (hF w.params)&&namesBound pw (hF w.params)
  &&gensDone (sF w os)&&laidKept (boot_heap w.params) (hF w.params))=true:=by kernel_rfl
end
end
end Hd
set_option Elab.async false
set_option linter.all false
set_option maxRecDepth 100000
namespace L2
open PySem PySem.Spec PyProof.Rows
abbrev Key:=Sum Int Str
def aoM:Key->Value->Bool
 |.inl k,v=>Value.isInt k v
 |.inr x,v=>Value.isStrOf x v
def keyH(w:World):Key->Int
 |.inl k=>hashInt k
 |.inr x=>hashStr w x
theorem aaL:∀{k:Key} {v:Value},aoM k v=true->(∃i t,k=Sum.inl i/\v=Value.int i t)∨(∃x t,k=Sum.inr x/\v=Value.str x t)
 |.inl i,v,h=>by
  obtain⟨t,e⟩:=Value.isInt_shape (k:=i) (v:=v) h
  exact .inl ⟨i,t,rfl,e⟩
 |.inr x,v,h=>by
  obtain⟨t,e⟩:=Value.isStrOf_shape (x:=x) (v:=v) h
  exact .inr ⟨x,t,rfl,e⟩
theorem ao1(a b:Int):decide ((Sum.inl a:Key)=Sum.inl b)=(a==b):=by
 by_cases e:a=b
 ·subst e;simp
 ·have h:¬(Sum.inl a:Key)=Sum.inl b:=fun q=>e (Sum.inl.inj q)
  rw[decide_eq_false h]
  exact (beq_eq_false_iff_ne.mpr e).symm
theorem apS(a b:Str):decide ((Sum.inr a:Key)=Sum.inr b)=decide (a=b):=by
 by_cases e:a=b
 ·subst e;simp
 ·have h:¬(Sum.inr a:Key)=Sum.inr b:=fun q=>e (Sum.inr.inj q)
  rw[decide_eq_false h,decide_eq_false e]
theorem apG(a:Int)(b:Str):decide ((Sum.inl a:Key)=Sum.inr b)=false:=decide_eq_false (fun q=>nomatch q)
theorem aqG(a:Str)(b:Int):decide ((Sum.inr a:Key)=Sum.inl b)=false:=decide_eq_false (fun q=>nomatch q)
def aiX(prog:Program)(w:World):PySem.KeyKind prog w Key where
 is:=aoM
 hash:=keyH w
 inj:=fun v a b ha hb=>by
  rcases aaL ha with ⟨i,t,rfl,rfl⟩ | ⟨x,t,rfl,rfl⟩
  ·rcases aaL hb with ⟨j,u,rfl,e⟩ | ⟨y,u,rfl,e⟩
   ·injection e with e1 _;rw[e1]
   ·exact nomatch e
  ·rcases aaL hb with ⟨j,u,rfl,e⟩ | ⟨y,u,rfl,e⟩
   ·exact nomatch e
   ·injection e with e1 _;rw[e1]
 byValue:=fun k v h=>by
  rcases aaL h with ⟨i,t,rfl,rfl⟩ | ⟨x,t,rfl,rfl⟩<;>rfl
 pyHash:=fun hv h=>by
  rcases aaL hv with ⟨i,t,rfl,rfl⟩ | ⟨x,t,rfl,rfl⟩
  ·exact wpAny_pyHash_int h
  ·exact wpAny_pyHash_str h
 eqBool:=fun hu hv h=>by
  rcases aaL hu with ⟨i,t,rfl,rfl⟩ | ⟨x,t,rfl,rfl⟩
  ·rcases aaL hv with ⟨j,u,rfl,rfl⟩ | ⟨y,u,rfl,rfl⟩
   ·rw[ao1] at h;exact wpAny_eqBool_int h
   ·rw[apG] at h;exact SeqAt.EqAt.int_str i t y u _ _ _ _ h
  ·rcases aaL hv with ⟨j,u,rfl,rfl⟩ | ⟨y,u,rfl,rfl⟩
   ·rw[aqG] at h;exact SeqAt.EqAt.str_int x t j u _ _ _ _ h
   ·rw[apS] at h;exact wpAny_eqBool_str h
 «strs»:=fun k x t v h=>by
  rcases aaL h with ⟨i,u,rfl,e⟩ | ⟨y,u,rfl,e⟩
  ·exact nomatch e
  ·injection e with e1 _
   subst e1
   cases v<;>rfl
inductive V where
 |non | bl (b:Bool) | int (i:Int) | str (x:Str) | byt (b:Array UInt8) | flt (b:UInt64) | ref (a:Addr) | ty (n:String)
 deriving DecidableEq
def RelV:V->Value->Prop
 |.non,u=>u=Value.none
 |.bl b,u=>u=Value.bool b
 |.int i,u=>∃t,u=Value.int i t
 |.str x,u=>∃t,u=Value.str x t
 |.byt b,u=>∃t,u=Value.bytes b t
 |.flt b,u=>∃t,u=Value.float b t
 |.ref a,u=>u=Value.ref a
 |.ty n,u=>u=Value.type n
abbrev Vals:List V->List Value->Prop:=Paired RelV
theorem Vals.length{xs:List V}{us:List Value}(r:Vals xs us):xs.length=us.length:=Paired.length r
theorem Vals.get:∀{xs:List V} {us:List Value} {i:Nat} {x:V},Vals xs us->xs[i]? =some x->∃u,us[i]? =some u/\RelV x u
 |_,_,_,_,.nil,e=>by simp at e
 |_,_,0,_,.cons r _,e=>by simp at e;subst e;exact⟨_,rfl,r⟩
 |_,_,i+1,x,.cons _ t,e=>by
  obtain⟨u,h1,h2⟩:=Vals.get (i:=i) (x:=x) t (by simpa using e)
  exact⟨u,by simpa using h1,h2⟩
theorem Vals.set{x:V}{u:Value}(r:RelV x u):∀{xs:List V} {us:List Value} (i:Nat),Vals xs us->Vals (xs.set i x) (us.set i u)
 |_,_,_,.nil=>.nil
 |_,_,0,.cons _ t=>.cons r t
 |_,_,i+1,.cons q t=>.cons q (Vals.set r i t)
theorem Vals.append:∀{xs ys:List V} {us ws:List Value},Vals xs us->Vals ys ws->Vals (xs++ys) (us++ws)
 |_,_,_,_,.nil,s=>s
 |_,_,_,_,.cons r t,s=>.cons r (Vals.append t s)
theorem Vals.take:∀{xs:List V} {us:List Value} (n:Nat),Vals xs us->Vals (xs.take n) (us.take n)
 |_,_,0,_=>.nil
 |_,_,_+1,.nil=>.nil
 |_,_,n+1,.cons r t=>.cons r (Vals.take n t)
theorem Vals.drop:∀{xs:List V} {us:List Value} (n:Nat),Vals xs us->Vals (xs.drop n) (us.drop n)
 |_,_,0,r=>r
 |_,_,_+1,.nil=>.nil
 |_,_,n+1,.cons _ t=>Vals.drop n t
def anZ:Option V->Option Value->Prop
 |some v,some u=>RelV v u
 |none,none=>True
 |_,_=>False
def KV{κ:Type}:List (κ×V)->List (κ×Value)->Prop:=Paired fun (p:κ×V) (q:κ×Value)=>p.1=q.1/\RelV p.2 q.2
def kV:Key->V
 |.inl i=>.int i
 |.inr x=>.str x
inductive HO where
 |lst (xs:List V)
 |tup (xs:List V)
 |dK (kvs:List (Key×V)) | dT (kvs:List (List Key×V))
 |set (S:Int->Bool) (n:Nat)
 |ins (C dx:Addr) (fs:List (Str×V))
 |own (x:Addr)
 |xd (fs:List (Str×V))
 |met (f x:Addr)
 |rng (lo hi:Int)
 |frz (o:Obj) (u:HO)
 |tbl (ps:Array Value)
 |ext (φ:Heap->Prop)
abbrev Hp:=Addr->Option HO
def upd(H:Hp)(a:Addr)(o:HO):Hp:=fun b=>if b=a then some o else H b
theorem aaA{H:Hp}{a:Addr}{o:HO}:upd H a o a=some o:=by unfold upd;rw[if_pos rfl]
theorem aaF{H:Hp}{a b:Addr}{o:HO}(h:b≠a):upd H a o b=H b:=by unfold upd;rw[if_neg h]
theorem aaE{H:Hp}{a b:Addr}{o:HO}(h:H a=some o)(h':H b=none):a≠b:=by
 intro e;subst e;rw[h] at h';cases h'
section
variable(P:Program)(w:World)
def ObjOk(H:Hp)(h:Heap)(a:Addr):HO->Prop
 |.lst xs=>xs.length<=sizeLine/\∃(its:List Value) (n:Nat),Vals xs its/\h.get? a=some {cls:=.type "list",data:=.seq its.toArray n}
 |.tup xs=>xs.length<=sizeLine/\∃its:List Value,Vals xs its/\IsTup h a its.toArray
 |.dK kvs=>kvs.length<=sizeLine/\(a==sysModules)=false/\∃vs,KV kvs vs/\h.DictOf (aiX P w) a vs
 |.dT kvs=>kvs.length<=sizeLine/\(a==sysModules)=false/\∃xs:List (List Key×Addr×Value),
   Paired (fun (p:List Key×V) (q:List Key×Addr×Value)=>p.1=q.1/\H q.2.1=some (.tup (p.1.map kV))/\RelV p.2 q.2.2) kvs xs/\
   ∃o es ep,h.get? a=some o/\o.ExactDict/\o.data=.dict es ep/\es.toList=xs.map (entryOfKey (tupleKind (aiX P w)))/\(xs.map (·.1)).Nodup
 |.set S n=>h.SetOf (intKind P w) a S n
 |.ins C dx fs=>H dx=some (.own a)/\fs.length<=1000/\dx≠a/\h.get? a=some (PySem.W.instObj C dx)/\
   ∃mA,h.Ns1 dx mA/\(∀f,anZ (fs.lookup f) (mA f))/\PySem.Within mA (fs.map (·.1))
 |.own _=>∃o,h.get? a=some o
 |.xd fs=>∃mA,h.Ns1 a mA/\∀f,anZ (fs.lookup f) (mA f)
 |.rng lo hi=>∃t u v,h.get? a=some {cls:=.type "range",data:=.fields #[.int lo t,.int hi u,.int 1 v]}
 |.frz o u=>h.get? a=some o/\ObjOk H h a u
 |.tbl ps=>h.get? a=some {cls:=.none,data:=.fields ps}
 |.met f x=>h.get? a=some (PySem.W.methodObj (.ref f) (.ref x))
 |.ext φ=>φ h/\(∃o,h.get? a=some o)/\∀h1 h2:Heap,φ h1->(∀o,h1.get? a=some o->h2.get? a=some o)->φ h2
def HOk(H:Hp)(h:Heap):Prop:=∀a o,H a=some o->ObjOk P w H h a o
end
section
variable{P:Program}{w:World}{H H':Hp}{h h':Heap}{a:Addr}{o:HO}
theorem ObjOk.lt(x:ObjOk P w H h a o):a<h.objs.size:=by
 cases o with
 |lst xs=>obtain⟨_,_,_,_,e⟩:=x;exact Heap.lt_size e
 |tup xs=>obtain⟨_,_,_,p⟩:=x;exact p.lt
 |dK kvs=>obtain⟨_,_,_,_,o,_,_,e,_⟩:=x;exact Heap.lt_size e
 |dT kvs=>obtain⟨_,_,_,_,o,_,_,e,_⟩:=x;exact Heap.lt_size e
 |set S n=>obtain⟨o,_,_,_,e,_⟩:=x;exact Heap.lt_size e
 |ins C dx fs=>obtain⟨_,_,_,e,_⟩:=x;exact Heap.lt_size e
 |own y=>obtain⟨_,e⟩:=x;exact Heap.lt_size e
 |xd fs=>obtain⟨_,⟨_,_,_,e,_⟩,_⟩:=x;exact Heap.lt_size e
 |rng lo hi=>obtain⟨_,_,_,e⟩:=x;exact Heap.lt_size e
 |frz ob u=>obtain⟨e,_⟩:=x;exact Heap.lt_size e
 |tbl ps=>exact Heap.lt_size (show h.get? a=some _ from x)
 |met f y=>exact Heap.lt_size (show h.get? a=some _ from x)
 |ext φ=>obtain⟨_,⟨_,e⟩,_⟩:=x;exact Heap.lt_size e
theorem Paired.mapP{α β:Type}{F G:α->β->Prop}:∀{l₁:List α} {l₂:List β},Paired F l₁ l₂->(∀a b,F a b->G a b)->Paired G l₁ l₂
 |_,_,.nil,_=>.nil
 |_,_,.cons r t,f=>.cons (f _ _ r) (Paired.mapP t f)
theorem Paired.imp'{α β:Type}{F G:α->β->Prop}(f:∀a b,F a b->G a b){l₁:List α}{l₂:List β}(r:Paired F l₁ l₂):Paired G l₁ l₂:=Paired.mapP r f
theorem ObjOk.stay(x:ObjOk P w H h a o)(k:∀b u,(b=a∨H b=some (.own a))->h.get? b=some u->h'.get? b=some u)
  (ho:∀b,H b=some (.own a)->H' b=some (.own a)) (ht:∀b xs,H b=some (.tup xs)->H' b=some (.tup xs)):ObjOk P w H' h' a o:=by
 induction o with
 |lst xs=>obtain⟨z,its,n,r,e⟩:=x;exact⟨z,its,n,r,k _ _ (.inl rfl) e⟩
 |tup xs=>obtain⟨z,its,r,ob,e,c⟩:=x;exact⟨z,its,r,ob,k _ _ (.inl rfl) e,c⟩
 |dK kvs=>obtain⟨z,y,vs,r,ob,es,ep,e,c⟩:=x;exact⟨z,y,vs,r,ob,es,ep,k _ _ (.inl rfl) e,c⟩
 |dT kvs=>
  obtain⟨z,y,xs,r,ob,es,ep,e,c⟩:=x
  exact⟨z,y,xs,Paired.mapP r fun p q z=>⟨z.1,ht _ _ z.2.1,z.2.2⟩,ob,es,ep,k _ _ (.inl rfl) e,c⟩
 |set S n=>obtain⟨ob,es,ep,t,e,c⟩:=x;exact⟨ob,es,ep,t,k _ _ (.inl rfl) e,c⟩
 |ins C dx fs=>
  obtain⟨d,z,ne,e,mA,⟨od,es,ep,e2,c⟩,r⟩:=x
  exact⟨ho _ d,z,ne,k _ _ (.inl rfl) e,mA,⟨od,es,ep,k _ _ (.inr d) e2,c⟩,r⟩
 |own y=>obtain⟨ob,e⟩:=x;exact⟨ob,k _ _ (.inl rfl) e⟩
 |xd fs=>obtain⟨mA,⟨od,es,ep,e,c⟩,r⟩:=x;exact⟨mA,⟨od,es,ep,k _ _ (.inl rfl) e,c⟩,r⟩
 |rng lo hi=>obtain⟨t,u,v,e⟩:=x;exact⟨t,u,v,k _ _ (.inl rfl) e⟩
 |frz ob u ih=>obtain⟨e,q⟩:=x;exact⟨k _ _ (.inl rfl) e,ih q⟩
 |tbl ps=>
  have e:h.get? a=some {cls:=.none,data:=.fields ps}:=x
  show h'.get? a=some {cls:=.none,data:=.fields ps}
  exact k a _ (.inl rfl) e
 |met f y=>
  have e:h.get? a=some (PySem.W.methodObj (.ref f) (.ref y)):=x
  show h'.get? a=some (PySem.W.methodObj (.ref f) (.ref y))
  exact k a _ (.inl rfl) e
 |ext φ=>obtain⟨p,⟨o,e⟩,st⟩:=x;exact⟨st _ _ p fun o q=>k _ _ (.inl rfl) q,⟨o,k _ _ (.inl rfl) e⟩,st⟩
theorem HOk.lt(x:HOk P w H h)(e:H a=some o):a<h.objs.size:=(x a o e).lt
theorem HOk.fresh(x:HOk P w H h)(e:h.objs.size<=a):H a=none:=by
 cases q:H a with
 |none=>rfl
 |some u=>exact absurd (Nat.lt_of_lt_of_le (x.lt q) e) (Nat.lt_irrefl _)
theorem HOk.kept(x:HOk P w H h)(k:∀b u,h.get? b=some u->h'.get? b=some u):HOk P w H h':=fun a o e=>
 (x a o e).stay (fun b u _ q=>k b u q) (fun _ q=>q) fun _ _ q=>q
theorem HOk.laid(x:HOk P w H h)(k:∀b u,h.get? b=some u->h'.get? b=some u)(hp:h.objs.size<=a)(new:ObjOk P w (upd H a o) h' a o):HOk P w (upd H a o) h':=fun b u e=>by
 have hn:=x.fresh hp
 by_cases hb:b=a
 ·subst hb;rw[aaA] at e;cases e;exact new
 ·rw[aaF hb] at e
  exact (x b u e).stay (fun c v _ q=>k c v q) (fun c q=>by rw[aaF (aaE q hn)];exact q) fun c xs q=>by rw[aaF (aaE q hn)];exact q
end
def Rd(H:Hp)(a:Addr)(u:HO):Prop:=H a=some u∨∃o,H a=some (.frz o u)
theorem Rd.ok{P:Program}{w:World}{H:Hp}{h:Heap}{a:Addr}{u:HO}(r:Rd H a u)(x:HOk P w H h):ObjOk P w H h a u:=by
 rcases r with r | ⟨o,r⟩
 ·exact x a u r
 ·obtain⟨_,q⟩:=x a _ r
  exact q
def Mut:Option HO->Prop
 |some (.lst _)=>True
 |some (.dK _)=>True
 |some (.dT _)=>True
 |some (.set _ _)=>True
 |some (.ins _ _ _)=>True
 |some (.ext _)=>True
 |_=>False
section
variable{P:Program}{w:World}{H:Hp}{h h':Heap}{x e:Addr}{o':HO}
theorem HOk.write(ok:HOk P w H h)(mu:Mut (H x))(he:e=x∨H e=some (.own x))(k:∀b u,b≠e->h.get? b=some u->h'.get? b=some u)(heo:∃u,h'.get? e=some u)
  (new:ObjOk P w (upd H x o') h' x o'):HOk P w (upd H x o') h':=fun b u q=>by
 have nown:∀c y,H c=some (.own y)->c≠x:=fun c y r z=>by subst z;rw[r] at mu;exact mu
 have ntup:∀c xs,H c=some (.tup xs)->c≠x:=fun c xs r z=>by subst z;rw[r] at mu;exact mu
 by_cases hb:b=x
 ·subst hb;rw[aaA] at q;cases q;exact new
 ·rw[aaF hb] at q
  by_cases hbe:b=e
  ·have q':H b=some (.own x):=by
    rcases he with z | z
    ·exact absurd (hbe.trans z) hb
    ·rw[hbe];exact z
   rw[q] at q';cases q'
   obtain⟨v,hv⟩:=heo
   exact⟨v,by rw[hbe];exact hv⟩
  ·refine (ok b u q).stay (fun c v hc r=>k c v ?_ r) (fun c r=>by rw[aaF (nown c b r)];exact r) fun c xs r=>by rw[aaF (ntup c xs r)];exact r
   rcases hc with rfl | hc
   ·exact hbe
   ·rintro rfl
    rcases he with z | z
    ·exact nown c b hc z
    ·rw[hc] at z;cases z;exact hb rfl
end
structure Un(fs ex:List Addr)(H H':Hp)(h h':Heap):Prop where
 keep:∀b o,h.get? b=some o->H b=none->b∉fs->b∉ex->h'.get? b=some o
 slot:∀b o,h.get? b=some o->H b=none->b∈fs->b∉ex->∃sl,h'.get? b=some {o with slots:=sl}
 free:∀b o,h.get? b=some o->H b=none->b∉ex->H' b=none
 there:∀b o,h.get? b=some o->b∉ex->∃o',h'.get? b=some o'
 tups:∀b xs,H b=some (.tup xs)->H' b=some (.tup xs)
 frzs:∀b o u,H b=some (.frz o u)->H' b=some (.frz o u)
 tbls:∀b ps,H b=some (.tbl ps)->∃more,H' b=some (.tbl (ps++more))
section
variable{fs fs' ex ex':List Addr}{H H1 H2:Hp}{h h1 h2 h':Heap}{a x e:Addr}{o:HO}
theorem Un.any(u:Un fs ex H H1 h h1){b:Addr}{ob:Obj}(q:h.get? b=some ob)(n:H b=none)(hx:b∉ex):∃sl,h1.get? b=some {ob with slots:=sl}:=by
 by_cases hb:b∈fs
 ·exact u.slot b ob q n hb hx
 ·exact⟨ob.slots,u.keep b ob q n hb hx⟩
theorem Un.trans(a:Un fs ex H H1 h h1)(b:Un fs ex H1 H2 h1 h2):Un fs ex H H2 h h2 where
 keep:=fun c ob q n hc hx=>b.keep c ob (a.keep c ob q n hc hx) (a.free c ob q n hx) hc hx
 slot:=fun c ob q n hc hx=>by
  obtain⟨sl,e1⟩:=a.slot c ob q n hc hx
  obtain⟨sl',e2⟩:=b.slot c _ e1 (a.free c ob q n hx) hc hx
  exact⟨sl',e2⟩
 free:=fun c ob q n hx=>by
  obtain⟨o',e1⟩:=a.there c ob q hx
  exact b.free c o' e1 (a.free c ob q n hx) hx
 there:=fun c ob q hx=>by
  obtain⟨o',e1⟩:=a.there c ob q hx
  exact b.there c o' e1 hx
 tups:=fun c xs q=>b.tups c xs (a.tups c xs q)
 frzs:=fun c ob xs q=>b.frzs c ob xs (a.frzs c ob xs q)
 tbls:=fun c ps q=>by
  obtain⟨m1,e1⟩:=a.tbls c ps q
  obtain⟨m2,e2⟩:=b.tbls c _ e1
  exact⟨m1++m2,by rw[e2,Array.append_assoc]⟩
theorem Un.kept(k:∀b u,h.get? b=some u->h'.get? b=some u):Un fs ex H H h h':=
 ⟨fun b ob q _ _ _=>k b ob q,fun b ob q _ _ _=>⟨ob.slots,k b ob q⟩,fun _ _ _ n _=>n,fun b ob q _=>⟨ob,k b ob q⟩,fun _ _ q=>q,fun _ _ _ q=>q,fun _ ps q=>⟨#[],by rw[q];simp⟩⟩
theorem Un.refl:Un fs ex H H h h:=Un.kept fun _ _ q=>q
theorem Un.laid(k:∀b u,h.get? b=some u->h'.get? b=some u)(hp:h.objs.size<=a)(hn:H a=none):Un fs ex H (upd H a o) h h' where
 keep:=fun b u q _ _ _=>k b u q
 slot:=fun b u q _ _ _=>⟨u.slots,k b u q⟩
 free:=fun b u q n _=>by rw[aaF (Nat.ne_of_lt (Nat.lt_of_lt_of_le (Heap.lt_size q) hp))];exact n
 there:=fun b u q _=>⟨u,k b u q⟩
 tups:=fun b xs q=>by rw[aaF (aaE q hn)];exact q
 frzs:=fun b u xs q=>by rw[aaF (aaE q hn)];exact q
 tbls:=fun b ps q=>⟨#[],by rw[aaF (aaE q hn),q];simp⟩
theorem Un.write(mu:Mut (H x))(he:e=x∨H e=some (.own x))(k:∀b u,b≠e->h.get? b=some u->h'.get? b=some u)(heo:∃u,h'.get? e=some u):Un fs ex H (upd H x o) h h':=by
 have hx:∀b,H b=none->b≠x:=fun b n z=>by subst z;rw[n] at mu;exact mu
 have hb:∀b,H b=none->b≠e:=fun b n z=>by
  subst z
  rcases he with r | r
  ·exact hx b n r
  ·rw[n] at r;cases r
 have hm:∀b u,H b=some u->¬Mut (some u)->b≠x:=fun b u q nm z=>by subst z;rw[q] at mu;exact nm mu
 refine⟨fun b u q n _ _=>k b u (hb b n) q,fun b u q n _ _=>⟨u.slots,k b u (hb b n) q⟩,fun b u q n _=>by rw[aaF (hx b n)];exact n,fun b u q _=>?_,
  fun b xs q=>by rw[aaF (hm b _ q fun z=>z)];exact q,fun b u xs q=>by rw[aaF (hm b _ q fun z=>z)];exact q,fun b ps q=>⟨#[],by rw[aaF (hm b _ q fun z=>z),q];simp⟩⟩
 by_cases hbe:b=e
 ·subst hbe;exact heo
 ·exact⟨u,k b u hbe q⟩
end
def trk(h:Heap)(H:Hp):List Addr:=(List.range h.objs.size).filter fun a=>(H a).isSome
def agJ(h:Heap)(H:Hp):Heap:=PySem.W.hideAll h (trk h H)
theorem akD(h:Heap)(H:Hp):(agJ h H).objs.size=h.objs.size:=PySem.W.hideAll_size _ _
theorem amQ{h:Heap}{H:Hp}{b:Addr}{o:Obj}(e:h.get? b=some o)(n:H b=none):(agJ h H).get? b=some o:=
 PySem.W.hideAll_get _ e fun hm=>by
  have q:(H b).isSome=true:=(List.mem_filter.mp hm).2
  rw[n] at q;simp at q
theorem anI{h:Heap}{H:Hp}{b:Addr}{o:Obj}(e:(agJ h H).get? b=some o):h.get? b=some o/\H b=none:=by
 have e':h.get? b=some o:=PySem.W.of_hideAll (trk h H) e
 refine⟨e',?_⟩
 cases q:H b with
 |none=>rfl
 |some x=>
  have hm:b∈trk h H:=List.mem_filter.mpr ⟨List.mem_range.mpr (Heap.lt_size e'),by simp[q]⟩
  have z:(agJ h H).get? b=none:=PySem.W.hideAll_none (trk h H) hm
  rw[z] at e;cases e
def anS(g h:Heap)(L:Addr):List (Addr×Obj):=(List.range h.objs.size).filterMap fun a=>if a=L∨(g.get? a).isSome=true then none else (h.get? a).map fun o=>(a,o)
def aa9(g h:Heap)(L d:Addr):List (Addr×Obj):=(anS g h L).filter fun p=>decide (p.1≠d)
structure Mod(K:PySem.W.Frag)(mg:Str->Option Value)(base:Heap):Prop where
 kin:K.In base
 glob:base.Ns mainGlobals mg
 blt:∃mb,base.Ns builtinsNs mb/\∀x:Str,x≠"__name__"->mb x=bootBuiltins x
 nolimit:base.NoLimit
structure Cx where
 prog:Program
 w:World
 K:PySem.W.Frag
 mg:Str->Option Value
 base:Heap
 A:Around
 N:List Str
 s₀:Shared
 H₀:Hp
 env:Env
 outer:List Env
 stack:List Env
 ex:List Addr
 fn:Str->Bool
 calm:Bool
 pn:List (Addr×Obj)
 xe:Value->Shared->Prop
def frs(l:List Env):List Addr:=l.filterMap (·.frame)
abbrev Cx.fs(X:Cx):List Addr:=frs X.outer
def Vis(sc:Scope)(x:Str):Prop:=sc.names.lookup x=some .local∨sc.names.lookup x=some .cell∨sc.names.lookup x=some .free
def Loc(sc:Scope)(x:Str):Prop:=sc.names.lookup x=some .local∨sc.names.lookup x=some .cell
def Look(env:Env)(h:Heap)(m:Str->Option Value)(x:Str)(u:Value):Prop:=
 (env.kindOf x=some .local/\m x=some u)∨((env.kindOf x=some .cell∨env.kindOf x=some .free)/\∃c,env.cells.lookup x=some c/\h.IsCell c (some u))
structure Cx.Ok(X:Cx):Prop where
 mod:Mod X.K X.mg X.base
 kind:X.env.scope.kind=.function
 glob:X.env.globals=mainGlobals
 blt:X.env.builtins=builtinsNs
 above:X.s₀.heap.objs.size<=X.env.locals
 inj:∀x y c,X.env.cells.lookup x=some c->X.env.cells.lookup y=some c->x=y
 has:∀x,(X.env.kindOf x=some .cell∨X.env.kindOf x=some .free)->∃c,X.env.cells.lookup x=some c
 cab:∀x c,X.fn x=true->X.env.cells.lookup x=some c->X.s₀.heap.objs.size<=c
 hd:X.calm=true->X.A.handled=none
 frames:X.A.frames=some X.stack
 stk:X.stack=X.outer∨(X.stack=X.env::X.outer/\X.env.frame=some X.env.locals)
 exf:∀b∈X.ex,b≠X.env.locals/\∀x c,X.env.cells.lookup x=some c->c≠b
 bs:∀b o,X.base.get? b=some o->X.s₀.heap.get? b=some o/\X.H₀ b=none
 bsz:X.base.objs.size<=X.s₀.heap.objs.size
 noex:∀b o,X.base.get? b=some o->b∉X.ex
 exfs:∀b∈X.ex,b∉X.fs
 funs:X.s₀.heap.FunFrames X.base X.outer
 frf:∀b∈X.fs,X.H₀ b=none
structure Inv(X:Cx)(pins:List (Addr×Obj))(σ:List (Option V))(H:Hp)(s:Shared):Prop where
 ok:X.Ok
 os:s.os=X.s₀.os
 bare:AllBare s.gens
 base:Un X.fs X.ex X.H₀ H X.s₀.heap s.heap
 loc:∃m,s.heap.Ns X.env.locals m/\∀(i:Nat) (x:Str) (v:V),X.N[i]? =some x->σ[i]? =some (some v)->Vis X.env.scope x->∃u,RelV v u/\Look X.env s.heap m x u
 cell:∀x c,X.env.cells.lookup x=some c->∃v,s.heap.IsCell c v
 free:H X.env.locals=none
 freeC:∀x c,X.env.cells.lookup x=some c->H c=none
 pin:∀p∈X.pn++pins,s.heap.get? p.1=some p.2/\H p.1=none/\p.1≠X.env.locals/\p.1∉X.fs/\∀v,p.2.data≠ .cell v
 hok:HOk X.prog X.w H s.heap
 len:σ.length=X.N.length
section
variable{X:Cx}{pins:List (Addr×Obj)}{σ:List (Option V)}{H H':Hp}{s:Shared}{h':Heap}
theorem Cx.Ok.nofr(ok:X.Ok){b:Addr}{o:Obj}(e:X.base.get? b=some o):b∉X.fs:=fun hb=>by
 have:=(ok.funs.mem hb).1
 rw[e] at this;cases this
theorem Inv.bs(I:Inv X pins σ H s):∀b o,X.base.get? b=some o->s.heap.get? b=some o/\H b=none:=fun b o e=>
 ⟨I.base.keep b o (I.ok.bs b o e).1 (I.ok.bs b o e).2 (I.ok.nofr e) (I.ok.noex b o e),I.base.free b o (I.ok.bs b o e).1 (I.ok.bs b o e).2 (I.ok.noex b o e)⟩
theorem Inv.bk(I:Inv X pins σ H s):∀b o,X.base.get? b=some o->s.heap.get? b=some o:=fun b o e=>(I.bs b o e).1
theorem Inv.mod(I:Inv X pins σ H s):Mod X.K X.mg X.base:=I.ok.mod
theorem Inv.kIn(I:Inv X pins σ H s):X.K.In s.heap:=I.ok.mod.kin.keeps I.bk
theorem Inv.nolimit(I:Inv X pins σ H s):s.heap.NoLimit:=I.ok.mod.nolimit.keeps I.bk
theorem Inv.lt(I:Inv X pins σ H s):X.env.locals<s.heap.objs.size:=let ⟨_,hn,_⟩:=I.loc;hn.lt
theorem Inv.sz(I:Inv X pins σ H s):X.s₀.heap.objs.size<=s.heap.objs.size:=Nat.le_trans I.ok.above (Nat.le_of_lt I.lt)
theorem Inv.nofs(I:Inv X pins σ H s){a:Addr}(h:s.heap.objs.size<=a):a∉X.fs:=fun hb=>by
 obtain⟨_,o,ho,_⟩:=I.ok.funs.mem hb
 exact absurd (Nat.lt_of_lt_of_le (Heap.lt_size ho) (Nat.le_trans I.sz h)) (Nat.lt_irrefl _)
theorem Inv.cne(I:Inv X pins σ H s):∀x c,X.env.cells.lookup x=some c->c≠X.env.locals:=fun x c e z=>by
 obtain⟨v,o,ho,hd⟩:=I.cell x c e
 obtain⟨m,⟨o',es,ep,ho',hd',_⟩,_⟩:=I.loc
 rw[z,ho'] at ho;cases ho;rw[hd'] at hd;cases hd
theorem Inv.funs(I:Inv X pins σ H s):s.heap.FunFrames X.base X.outer:=by
 have all:∀(l:List Env),(∀b∈frs l,b∈X.fs)->X.s₀.heap.FunFrames X.base l->s.heap.FunFrames X.base l:=by
  intro l
  induction l with
  |nil=>intro _ _;trivial
  |cons env r ih=>
   intro hs hl
   obtain⟨hk,⟨L,o,hf,hn,ho,hd⟩,hr⟩:=hl
   have hL:L∈X.fs:=hs L (by unfold frs;rw[List.filterMap_cons,hf];exact List.mem_cons_self)
   obtain⟨sl,e⟩:=I.base.slot L o ho (I.ok.frf L hL) hL fun z=>I.ok.exfs L z hL
   exact⟨hk,⟨L,_,hf,hn,e,hd⟩,ih (fun b hb=>hs b (by unfold frs;rw[List.filterMap_cons,hf];exact List.mem_cons_of_mem _ hb)) hr⟩
 exact all X.outer (fun _ hb=>hb) I.ok.funs
theorem Inv.stack(I:Inv X pins σ H s):s.heap.FunFrames X.base X.stack:=by
 rcases I.ok.stk with e | ⟨e,hf⟩
 ·rw[e];exact I.funs
 ·rw[e]
  obtain⟨m,hn,_⟩:=I.loc
  refine .cons (by rw[I.ok.kind];decide) hf hn ?_ I.funs
  exact Heap.get?_none_of_le (Nat.le_trans I.ok.bsz I.ok.above)
theorem Inv.stkSub(I:Inv X pins σ H s):∀b∈frs X.stack,b∈X.env.locals::X.fs:=fun b hb=>by
 rcases I.ok.stk with e | ⟨e,hf⟩
 ·rw[e] at hb;exact List.mem_cons_of_mem _ hb
 ·rw[e] at hb
  unfold frs at hb
  rw[List.filterMap_cons,hf] at hb
  exact hb
theorem Inv.stkFree(I:Inv X pins σ H s):∀b∈frs X.stack,H b=none:=fun b hb=>by
 rcases List.mem_cons.mp (I.stkSub b hb) with e | hb
 ·rw[e];exact I.free
 ·obtain⟨_,o,ho,_⟩:=I.ok.funs.mem hb
  exact I.base.free b o ho (I.ok.frf b hb) fun z=>I.ok.exfs b z hb
theorem Inv.step{g':Array GenState}{t':Nat}{d':Drawn}{ch:List Addr}(I:Inv X pins σ H s)
  (hch:∀b∈ch,(b∈X.ex∨X.s₀.heap.objs.size<=b)/\b≠X.env.locals/\(∀x c,X.env.cells.lookup x=some c->c≠b)/\∀p∈X.pn++pins,p.1≠b)
  (keep:∀b o,b≠X.env.locals->b∉X.fs->b∉ch->s.heap.get? b=some o->H b=none->h'.get? b=some o)
  (slot:∀b o,b≠X.env.locals->b∈X.fs->b∉ch->s.heap.get? b=some o->H b=none->∃sl,h'.get? b=some {o with slots:=sl}) (free:∀b o,b∉ch->s.heap.get? b=some o->H b=none->H' b=none)
  (there:∀b o,b∉ch->s.heap.get? b=some o->∃o',h'.get? b=some o')
  (tups:∀b xs,H b=some (.tup xs)->H' b=some (.tup xs)) (frzs:∀b o u,H b=some (.frz o u)->H' b=some (.frz o u)) (tbls:∀b ps,H b=some (.tbl ps)->∃more,H' b=some (.tbl (ps++more)))
  (ns:∀m,s.heap.Ns X.env.locals m->h'.Ns X.env.locals m) (hok:HOk X.prog X.w H' h') (hg:AllBare g'):
  Inv X pins σ H' {s with heap:=h',gens:=g',drawn:=d',toks:=t'}:=by
 have neL:∀b o,X.s₀.heap.get? b=some o->b≠X.env.locals:=fun b o e=>Nat.ne_of_lt (Nat.lt_of_lt_of_le (Heap.lt_size e) I.ok.above)
 have neC:∀b o,X.s₀.heap.get? b=some o->b∉X.ex->b∉ch:=fun b o e hx hb=>by
  rcases (hch b hb).1 with z | z
  ·exact hx z
  ·exact absurd (Nat.lt_of_lt_of_le (Heap.lt_size e) z) (Nat.lt_irrefl _)
 have cellK:∀x c,X.env.cells.lookup x=some c->∀v,s.heap.IsCell c v->h'.IsCell c v:=fun x c e v ⟨o,ho,hd⟩=>by
  have nch:c∉ch:=fun z=>(hch c z).2.2.1 x c e rfl
  by_cases hc:c∈X.fs
  ·obtain⟨sl,q⟩:=slot c o (I.cne x c e) hc nch ho (I.freeC x c e)
   exact⟨_,q,hd⟩
  ·exact⟨o,keep c o (I.cne x c e) hc nch ho (I.freeC x c e),hd⟩
 refine⟨I.ok,I.os,hg,⟨fun b o e n hb hx=>?_,fun b o e n hb hx=>?_,fun b o e n hx=>?_,fun b o e hx=>?_,fun b xs e=>tups b xs (I.base.tups b xs e),fun b o xs e=>frzs b o xs (I.base.frzs b o xs e),fun b ps e=>?_⟩,?_,fun x c e=>?_,?_,fun x c e=>?_,fun p hp=>?_,hok,I.len⟩
 ·exact keep b o (neL b o e) hb (neC b o e hx) (I.base.keep b o e n hb hx) (I.base.free b o e n hx)
 ·obtain⟨sl,e1⟩:=I.base.slot b o e n hb hx
  obtain⟨sl',e2⟩:=slot b _ (neL b o e) hb (neC b o e hx) e1 (I.base.free b o e n hx)
  exact⟨sl',e2⟩
 ·obtain⟨o',e1⟩:=I.base.there b o e hx
  exact free b o' (neC b o e hx) e1 (I.base.free b o e n hx)
 ·obtain⟨o',e1⟩:=I.base.there b o e hx
  exact there b o' (neC b o e hx) e1
 ·obtain⟨m1,e1⟩:=I.base.tbls b ps e
  obtain⟨m2,e2⟩:=tbls b _ e1
  exact⟨m1++m2,by rw[e2,Array.append_assoc]⟩
 ·obtain⟨m,hn,hl⟩:=I.loc
  refine⟨m,ns m hn,fun i x v e1 e2 e3=>?_⟩
  obtain⟨u,r,l⟩:=hl i x v e1 e2 e3
  refine⟨u,r,?_⟩
  rcases l with l | ⟨k,c,e,z⟩
  ·exact .inl l
  ·exact .inr ⟨k,c,e,cellK x c e _ z⟩
 ·obtain⟨v,z⟩:=I.cell x c e
  exact⟨v,cellK x c e v z⟩
 ·obtain⟨m,⟨o,_,_,ho,_⟩,_⟩:=I.loc
  exact free _ o (fun z=>(hch _ z).2.1 rfl) ho I.free
 ·obtain⟨v,o,ho,hd⟩:=I.cell x c e
  exact free c o (fun z=>(hch c z).2.2.1 x c e rfl) ho (I.freeC x c e)
 ·obtain⟨e,n,ne,nf,d⟩:=I.pin p hp
  have nch:p.1∉ch:=fun z=>(hch p.1 z).2.2.2 p hp rfl
  exact⟨keep p.1 p.2 ne nf nch e n,free p.1 p.2 nch e n,ne,nf,d⟩
theorem Inv.un{t':Nat}(I:Inv X pins σ H s)(u:Un X.fs [] H H' s.heap h')(hok:HOk X.prog X.w H' h'):Inv X pins σ H' {s with heap:=h',toks:=t'}:=by
 obtain⟨m,⟨o,es,ep,ho,r⟩,_⟩:=id I.loc
 obtain⟨sl,hL⟩:=u.any ho I.free (by simp)
 exact I.step (g':=s.gens) (d':=s.drawn) (ch:=[]) (fun _ z=>nomatch z) (fun b o _ hb _ e n=>u.keep b o e n hb (by simp)) (fun b o _ hb _ e n=>u.slot b o e n hb (by simp)) (fun b o _ e n=>u.free b o e n (by simp)) (fun b o _ e=>u.there b o e (by simp)) u.tups u.frzs u.tbls (fun m' hm=>by
  obtain⟨o',es',ep',ho',r'⟩:=hm
  rw[ho] at ho';cases ho'
  exact⟨_,es',ep',hL,r'⟩) hok I.bare
theorem Inv.call{g':Array GenState}{t':Nat}{d':Drawn}{ch:List Addr}(I:Inv X pins σ H s)(u:Un (frs X.stack) ch H H' s.heap h')(hok:HOk X.prog X.w H' h')(hg:AllBare g')
  (hch:∀b∈ch,(b∈X.ex∨X.s₀.heap.objs.size<=b)/\b≠X.env.locals/\(∀x c,X.env.cells.lookup x=some c->c≠b)/\∀p∈X.pn++pins,p.1≠b):
  Inv X pins σ H' {s with heap:=h',gens:=g',drawn:=d',toks:=t'}:=by
 obtain⟨m,⟨o,es,ep,ho,r⟩,_⟩:=id I.loc
 obtain⟨sl,hL⟩:=u.any ho I.free fun z=>(hch _ z).2.1 rfl
 exact I.step (ch:=ch) hch (fun b o hL hb hc e n=>u.keep b o e n (fun z=>(List.mem_cons.mp (I.stkSub b z)).elim hL hb) hc) (fun b o _ _ hc e n=>u.any e n hc) (fun b o hc e n=>u.free b o e n hc) (fun b o hc e=>u.there b o e hc) u.tups u.frzs u.tbls (fun m' hm=>by
  obtain⟨o',es',ep',ho',r'⟩:=hm
  rw[ho] at ho';cases ho'
  exact⟨_,es',ep',hL,r'⟩) hok hg
theorem Inv.turned{t':Nat}{it:Addr}(I:Inv X pins σ H s)(k:∀b o,b≠it->s.heap.get? b=some o->h'.get? b=some o)(hn:H it=none)(hL:it≠X.env.locals)
  (h1:it∈X.ex∨X.s₀.heap.objs.size<=it) (h2:∀x c,X.env.cells.lookup x=some c->c≠it) (h3:∀p∈X.pn++pins,p.1≠it):Inv X pins σ H {s with heap:=h',toks:=t'}:=by
 have nit:∀b u,H b=some u->b≠it:=fun b u e z=>by rw[z,hn] at e;cases e
 refine I.step (g':=s.gens) (d':=s.drawn) (ch:=[it]) (fun b hb=>?_) (fun b o _ _ hc e _=>k b o (fun z=>hc (by simp[z])) e) (fun b o _ _ hc e _=>⟨o.slots,k b o (fun z=>hc (by simp[z])) e⟩) (fun _ _ _ _ n=>n)
  (fun b o hc e=>⟨o,k b o (fun z=>hc (by simp[z])) e⟩) (fun _ _ e=>e) (fun _ _ _ e=>e) (fun b ps e=>⟨#[],by rw[e];simp⟩) (fun m hm=>?_) (fun b u e=>?_) I.bare
 ·have e:b=it:=by simpa using hb
  subst e
  exact⟨h1,hL,h2,h3⟩
 ·obtain⟨o,es,ep,ho,r⟩:=hm
  exact⟨o,es,ep,k _ o (Ne.symm hL) ho,r⟩
 ·refine (I.hok b u e).stay (fun c v hc q=>k c v ?_ q) (fun _ q=>q) fun _ _ q=>q
  rcases hc with z | z
  ·rw[z];exact nit b u e
  ·exact nit c _ z
theorem Inv.tok(I:Inv X pins σ H s)(t:Nat):Inv X pins σ H {s with toks:=t}:=I.un (h':=s.heap) (t':=t) Un.refl I.hok
theorem Inv.kept{t':Nat}(I:Inv X pins σ H s)(k:∀b u,s.heap.get? b=some u->h'.get? b=some u):Inv X pins σ H {s with heap:=h',toks:=t'}:=I.un (Un.kept k) (I.hok.kept k)
theorem Inv.laid{a:Addr}{o:HO}{t':Nat}(I:Inv X pins σ H s)(k:∀b u,s.heap.get? b=some u->h'.get? b=some u)(hp:s.heap.objs.size<=a)(new:ObjOk X.prog X.w (upd H a o) h' a o):
  Inv X pins σ (upd H a o) {s with heap:=h',toks:=t'}:=I.un (Un.laid k hp (I.hok.fresh hp)) (I.hok.laid k hp new)
theorem Inv.write{x e:Addr}{o:HO}{t':Nat}(I:Inv X pins σ H s)(mu:Mut (H x))(he:e=x∨H e=some (.own x))(k:∀b u,b≠e->s.heap.get? b=some u->h'.get? b=some u)(heo:∃u,h'.get? e=some u)
  (new:ObjOk X.prog X.w (upd H x o) h' x o):Inv X pins σ (upd H x o) {s with heap:=h',toks:=t'}:=I.un (Un.write mu he k heo) (I.hok.write mu he k heo new)
theorem Inv.pins_of{pins':List (Addr×Obj)}(I:Inv X pins σ H s)(h:∀p∈pins',s.heap.get? p.1=some p.2/\H p.1=none/\p.1≠X.env.locals/\p.1∉X.fs/\∀v,p.2.data≠ .cell v):Inv X pins' σ H s:=
 ⟨I.ok,I.os,I.bare,I.base,I.loc,I.cell,I.free,I.freeC,fun p hp=>(List.mem_append.mp hp).elim (fun z=>I.pin p (List.mem_append_left _ z)) (h p),I.hok,I.len⟩
theorem ahB{N:List Str}(hN:N.Nodup){i j:Nat}{x:Str}(a:N[i]? =some x)(b:N[j]? =some x):i=j:=by
 obtain⟨h1,e1⟩:=List.getElem?_eq_some_iff.mp a
 obtain⟨h2,e2⟩:=List.getElem?_eq_some_iff.mp b
 exact (List.getElem_inj hN).mp (e1.trans e2.symm)
theorem af4{M:Model}{A:Around}{E:Value->Shared->Prop}{i:Nat}{x:Str}{v:V}{u:Value}{Q:Unit->Shared->Prop}(I:Inv X pins σ H s)(hN:X.N.Nodup)(hi:X.N[i]? =some x)(hx:Loc X.env.scope x)(r:RelV v u)
  (h:∀s',Inv X pins (σ.set i (some v)) H s'->(∃a,Heap.SameBut a s.heap s'.heap/\(a=X.env.locals∨X.env.cells.lookup x=some a))->Q () s') (hf:X.fn x=true∨X.env.scope.names.lookup x=some .local:=by first | exact .inl rfl | exact .inr rfl | assumption):wpAny M A (storeName X.env x u) Q E s:=by
 obtain⟨m,hn,hl⟩:=id I.loc
 have hcls:(X.env.scope.kind== .class||(X.env.scope.kind== .module&&X.env.locals !=X.env.globals))=false:=by rw[I.ok.kind];rfl
 have hiσ:i<σ.length:=by rw[I.len];exact (List.getElem?_eq_some_iff.mp hi).1
 have cne:=I.cne
 have tracked:∀{a:Addr} {h':Heap},(∃o,s.heap.get? a=some o/\H a=none)->Heap.SameBut a s.heap h'->HOk X.prog X.w H h':=fun {a h'} ha hs b ob e=>by
  obtain⟨_,_,hfree⟩:=ha
  refine (I.hok b ob e).stay (fun c w' hc q=>(hs.2 c ?_).trans q) (fun _ q=>q) fun _ _ q=>q
  rintro rfl
  rcases hc with rfl | hc
  ·rw[hfree] at e;cases e
  ·rw[hfree] at hc;cases hc
 rcases hx with hk | hk
 ·refine wpAny_storeName_local hk hn (fun h' hn' hs=>?_) hcls
  obtain⟨oL,_,_,hoL,_⟩:=id hn
  refine h _ ⟨I.ok,I.os,I.bare,⟨fun b o e n hb hx=>?_,fun b o e n hb hx=>?_,I.base.free,fun b o e hx=>?_,I.base.tups,I.base.frzs,I.base.tbls⟩,⟨_,hn',fun j y v' e1 e2 e3=>?_⟩,fun y c e=>?_,I.free,I.freeC,fun p hp=>?_,tracked ⟨oL,hoL,I.free⟩ hs,by simpa using I.len⟩ ⟨_,hs,.inl rfl⟩
  ·exact (hs.2 b (Nat.ne_of_lt (Nat.lt_of_lt_of_le (Heap.lt_size e) I.ok.above))).trans (I.base.keep b o e n hb hx)
  ·obtain⟨sl,e1⟩:=I.base.slot b o e n hb hx
   exact⟨sl,(hs.2 b (Nat.ne_of_lt (Nat.lt_of_lt_of_le (Heap.lt_size e) I.ok.above))).trans e1⟩
  ·obtain⟨o',e1⟩:=I.base.there b o e hx
   exact⟨o',(hs.2 b (Nat.ne_of_lt (Nat.lt_of_lt_of_le (Heap.lt_size e) I.ok.above))).trans e1⟩
  ·by_cases hj:j=i
   ·subst hj
    rw[hi] at e1;cases e1
    rw[List.getElem?_set_self hiσ] at e2
    cases e2
    exact⟨u,r,.inl ⟨hk,by simp⟩⟩
   ·rw[List.getElem?_set_ne (Ne.symm hj)] at e2
    obtain⟨u',r',q⟩:=hl j y v' e1 e2 e3
    refine⟨u',r',?_⟩
    rcases q with ⟨k,e⟩ | ⟨k,c,e,z⟩
    ·refine .inl ⟨k,?_⟩
     have:y≠x:=fun e=>hj (ahB hN e1 (e▸hi))
     simp[this,e]
    ·exact .inr ⟨k,c,e,z.sameBut hs (cne y c e)⟩
  ·obtain⟨w',z⟩:=I.cell y c e
   exact⟨w',z.sameBut hs (cne y c e)⟩
  ·obtain⟨e,n,ne,nf,d⟩:=I.pin p hp
   exact⟨(hs.2 p.1 ne).trans e,n,ne,nf,d⟩
 ·have hfn:X.fn x=true:=by
   rcases hf with z | z
   ·exact z
   ·rw[z] at hk;cases hk
  obtain⟨c,hc⟩:=I.ok.has x (.inl hk)
  obtain⟨w',z⟩:=I.cell x c hc
  refine wpAny_storeName_cell I.ok.kind hk hc z (fun h' hc' hs=>?_)
  obtain⟨oc,hoc,hocd⟩:=id z
  refine h {s with heap:=h'} ⟨I.ok,I.os,I.bare,⟨fun b o e n hb hx=>?_,fun b o e n hb hx=>?_,I.base.free,fun b o e hx=>?_,I.base.tups,I.base.frzs,I.base.tbls⟩,⟨m,hn.sameBut hs (Ne.symm (cne x c hc)),fun j y v' e1 e2 e3=>?_⟩,fun y c' e=>?_,I.free,I.freeC,fun p hp=>?_,tracked ⟨oc,hoc,I.freeC x c hc⟩ hs,by simpa using I.len⟩ ⟨c,hs,.inr hc⟩
  ·exact (hs.2 b (Nat.ne_of_lt (Nat.lt_of_lt_of_le (Heap.lt_size e) (I.ok.cab x c hfn hc)))).trans (I.base.keep b o e n hb hx)
  ·obtain⟨sl,e1⟩:=I.base.slot b o e n hb hx
   exact⟨sl,(hs.2 b (Nat.ne_of_lt (Nat.lt_of_lt_of_le (Heap.lt_size e) (I.ok.cab x c hfn hc)))).trans e1⟩
  ·obtain⟨o',e1⟩:=I.base.there b o e hx
   exact⟨o',(hs.2 b (Nat.ne_of_lt (Nat.lt_of_lt_of_le (Heap.lt_size e) (I.ok.cab x c hfn hc)))).trans e1⟩
  ·by_cases hj:j=i
   ·subst hj
    rw[hi] at e1;cases e1
    rw[List.getElem?_set_self hiσ] at e2
    cases e2
    exact⟨u,r,.inr ⟨.inl hk,c,hc,hc'⟩⟩
   ·rw[List.getElem?_set_ne (Ne.symm hj)] at e2
    obtain⟨u',r',q⟩:=hl j y v' e1 e2 e3
    refine⟨u',r',?_⟩
    rcases q with q | ⟨k,c',e,z'⟩
    ·exact .inl q
    ·refine .inr ⟨k,c',e,z'.sameBut hs ?_⟩
     rintro rfl
     exact hj (ahB hN e1 (I.ok.inj _ _ _ e hc▸hi))
  ·by_cases hcc:c'=c
   ·subst hcc;exact⟨_,hc'⟩
   ·obtain⟨w2,z2⟩:=I.cell y c' e
    exact⟨w2,z2.sameBut hs hcc⟩
  ·obtain⟨e,n,ne,nf,d⟩:=I.pin p hp
   refine⟨(hs.2 p.1 ?_).trans e,n,ne,nf,d⟩
   intro q
   rw[q,hoc] at e
   have q':oc=p.2:=Option.some.inj e
   exact d w' (by rw[←q'];exact hocd)
theorem ae1{M:Model}{A:Around}{E:Value->Shared->Prop}{i:Nat}{x:Str}{v:V}{u:Value}{Q:Unit->Shared->Prop}(I:Inv X pins σ H s)(hN:X.N.Nodup)(hi:X.N[i]? =some x)(hx:Loc X.env.scope x)(r:RelV v u)
  (h:∀s',Inv X pins (σ.set i (some v)) H s'->Q () s') (hf:X.fn x=true∨X.env.scope.names.lookup x=some .local:=by first | exact .inl rfl | exact .inr rfl | assumption):wpAny M A (storeName X.env x u) Q E s:=
 af4 I hN hi hx r (fun s' I' _=>h s' I') hf
theorem Inv.call'{s':Shared}{ch:List Addr}(I:Inv X pins σ H s)(ho:s'.os=s.os)(u:Un (frs X.stack) ch H H' s.heap s'.heap)(hok:HOk X.prog X.w H' s'.heap)(hg:AllBare s'.gens)
  (hch:∀b∈ch,(b∈X.ex∨X.s₀.heap.objs.size<=b)/\b≠X.env.locals/\(∀x c,X.env.cells.lookup x=some c->c≠b)/\∀p∈X.pn++pins,p.1≠b):Inv X pins σ H' s':=by
 obtain⟨h',g',d',t',o'⟩:=s'
 have e:o'=s.os:=ho
 subst e
 exact I.call (g':=g') (t':=t') (d':=d') u hok hg hch
end
abbrev XK:=Value->Option Addr->Hp->Prop
abbrev St:=List (Option V)
abbrev VK:=V->Hp->Prop
abbrev TE:=St->Hp->VK->Prop
abbrev TT:=St->Hp->(Bool->Hp->Prop)->Prop
abbrev TA:=St->Hp->(List V->Hp->Prop)->Prop
structure Ends where
 nx:St->Hp->Prop
 rt:VK
 bk:St->Hp->Prop:=fun _ _=>False
 ct:St->Hp->Prop:=fun _ _=>False
abbrev TS:=Ends->St->Hp->Prop
def EP(X:Cx)(pins:List (Addr×Obj))(σ:St)(Q:VK)(u:Value)(s':Shared):Prop:=∃v H',Inv X pins σ H' s'/\RelV v u/\Q v H'
def TP(X:Cx)(pins:List (Addr×Obj))(σ:St)(Q:Bool->Hp->Prop)(b:Bool)(s':Shared):Prop:=∃H',Inv X pins σ H' s'/\Q b H'
def AP(X:Cx)(pins:List (Addr×Obj))(σ:St)(Q:List V->Hp->Prop)(us:List Value)(s':Shared):Prop:=∃vs H',Inv X pins σ H' s'/\Vals vs us/\Q vs H'
def SP(X:Cx)(pins:List (Addr×Obj))(D:Ends)(f:Flow)(s':Shared):Prop:=
 match f with
 |.next=>∃σ' H',Inv X pins σ' H' s'/\D.nx σ' H'
 |.brk=>∃σ' H',Inv X pins σ' H' s'/\D.bk σ' H'
 |.cont=>∃σ' H',Inv X pins σ' H' s'/\D.ct σ' H'
 |.ret u=>∃v σ' H',Inv X pins σ' H' s'/\RelV v u/\D.rt v H'
def PE(X:Cx)(e:Expr)(t:TE):Prop:=
 ∀(pins:List (Addr×Obj)) (s:Shared) (σ:St) (H:Hp) (Q:VK),Inv X pins σ H s->t σ H Q->wpAny (model X.prog X.w) X.A (eval e X.env) (EP X pins σ Q) X.xe s
def PT(X:Cx)(e:Expr)(t:TT):Prop:=
 ∀(pins:List (Addr×Obj)) (s:Shared) (σ:St) (H:Hp) (Q:Bool->Hp->Prop),Inv X pins σ H s->t σ H Q->wpAny (model X.prog X.w) X.A (isTrue e X.env (eval e X.env)) (TP X pins σ Q) X.xe s
def PW(X:Cx)(e:Expr)(t:TT):Prop:=
 ∀(whole:Sem Value) (pins:List (Addr×Obj)) (s:Shared) (σ:St) (H:Hp) (Q:Bool->Hp->Prop),Inv X pins σ H s->t σ H Q->wpAny (model X.prog X.w) X.A (isTrue e X.env whole) (TP X pins σ Q) X.xe s
theorem PW.pt{X:Cx}{e:Expr}{t:TT}(h:PW X e t):PT X e t:=h _
def PA(X:Cx)(es:List Expr)(t:TA):Prop:=
 ∀(pos:Pos) (pins:List (Addr×Obj)) (s:Shared) (σ:St) (H:Hp) (Q:List V->Hp->Prop),Inv X pins σ H s->t σ H Q->wpAny (model X.prog X.w) X.A (spliced (backTo pos (starEach es X.env))) (AP X pins σ Q) X.xe s
def PS(X:Cx)(st:Stmt)(t:TS):Prop:=
 ∀(pins:List (Addr×Obj)) (s:Shared) (σ:St) (H:Hp) (D:Ends),Inv X pins σ H s->t D σ H->wpAny (model X.prog X.w) X.A (exec st X.env) (SP X pins D) X.xe s
def PSs(X:Cx)(st:List Stmt)(t:TS):Prop:=
 ∀(pins:List (Addr×Obj)) (s:Shared) (σ:St) (H:Hp) (D:Ends),Inv X pins σ H s->t D σ H->wpAny (model X.prog X.w) X.A (execs st X.env) (SP X pins D) X.xe s
theorem thn{α:Type}{t:Sem α}{Q Q':α->Shared->Prop}{M:Model}{A:Around}{E:Value->Shared->Prop}{s:Shared}(h:wpAny M A t Q E s)(hQ:∀a s,Q a s->Q' a s):wpAny M A t Q' E s:=wpAny_mono h hQ fun _ _ x=>x
section
variable{X:Cx}
def asW(i:Nat):TE:=fun σ H Q=>∃v,σ[i]? =some (some v)/\Q v H
def tC(v:V):TE:=fun _ H Q=>Q v H
theorem aqV{i:Nat}{x:Str}{pos:Pos}(hN:X.N[i]? =some x)(hv:Vis X.env.scope x)(hd:(x==("__debug__":Str))=false:=by decide)(hcd:(x==("__classdict__":Str))=false:=by decide):PE X (.Name x pos) (asW i):=by
 intro pins s σ H Q I h
 obtain⟨v,e,h⟩:=h
 obtain⟨m,hn,hl⟩:=I.loc
 obtain⟨u,r,l⟩:=hl i x v hN e hv
 have fin:EP X pins σ Q u s:=⟨v,H,I,r,h⟩
 rcases l with ⟨hk,hm⟩ | ⟨hk,c,hc,hcell⟩
 ·exact wpAny_Name (wpAny_loadName_local I.ok.kind hk hn hm fin) hd
 ·rcases hk with hk | hk
  ·exact wpAny_Name (wpAny_loadName_cell I.ok.kind hk hc hcell fin) hd
  ·exact wpAny_Name (wpAny_loadName_free I.ok.kind hk hc hcell fin hcd) hd
theorem alR{i j pos}:PE X (.Constant (.int i) j pos) (tC (.int i)):=fun _ _ _ H _ I h=>wpAny_Constant_int ⟨.int i,H,I.tok _,⟨_,rfl⟩,h⟩
theorem asI{b j pos}:PE X (.Constant (.bool b) j pos) (tC (.bl b)):=fun _ _ _ H _ I h=>Constant_bool ⟨.bl b,H,I,rfl,h⟩
theorem aqO{j pos}:PE X (.Constant .none j pos) (tC .non):=fun _ _ _ H _ I h=>Constant_none ⟨.non,H,I,rfl,h⟩
def Gl(X:Cx)(x:Str):Prop:=X.env.kindOf x=some .globalImplicit
theorem ajL{E:Value->Shared->Prop}{pins:List (Addr×Obj)}{s:Shared}{σ:St}{H:Hp}{x:Str}{u:Value}{pos:Pos}{Q:Value->Shared->Prop}(I:Inv X pins σ H s)(hg:Gl X x)(hm:X.mg x=some u)(h:Q u s)
  (hd:(x==("__debug__":Str))=false:=by decide):wpAny (model X.prog X.w) X.A (eval (.Name x pos) X.env) Q E s:=
 Calls.Name_function_global I.ok.kind hg (Calls.loadGlobal_global (by rw[I.ok.glob];exact I.mod.glob.keeps I.bk) hm h) hd
theorem aeR{E:Value->Shared->Prop}{pins:List (Addr×Obj)}{s:Shared}{σ:St}{H:Hp}{x:Str}{u:Value}{pos:Pos}{Q:Value->Shared->Prop}(I:Inv X pins σ H s)(hg:Gl X x)(hm:X.mg x=none)(hv:bootBuiltins x=some u)(h:Q u s)
  (hn:x≠"__name__":=by decide) (hd:(x==("__debug__":Str))=false:=by decide):wpAny (model X.prog X.w) X.A (eval (.Name x pos) X.env) Q E s:=by
 obtain⟨mb,h1,h2⟩:=I.mod.blt
 exact Calls.Name_function_global I.ok.kind hg (Calls.loadGlobal_builtin (by rw[I.ok.glob];exact I.mod.glob.keeps I.bk) hm (by rw[I.ok.blt];exact h1.keeps I.bk) ((h2 x hn).trans hv) h) hd
theorem an2{x:Str}{v:V}{u:Value}{pos:Pos}(hg:Gl X x)(hm:X.mg x=some u)(r:RelV v u)(hd:(x==("__debug__":Str))=false:=by decide):PE X (.Name x pos) (tC v):=
 fun _ _ _ H _ I h=>ajL I hg hm ⟨v,H,I,r,h⟩ hd
theorem anF{x:Str}{v:V}{u:Value}{pos:Pos}(hg:Gl X x)(hm:X.mg x=none)(hv:bootBuiltins x=some u)(r:RelV v u)(hn:x≠"__name__":=by decide)(hd:(x==("__debug__":Str))=false:=by decide):PE X (.Name x pos) (tC v):=
 fun _ _ _ H _ I h=>aeR I hg hm hv ⟨v,H,I,r,h⟩ hn hd
variable{a b:Expr}{ta tb:TE}{pos:Pos}
def tB(t:TE):TT:=fun σ H Q=>t σ H fun x H1=>∃c,x=.bl c/\Q c H1
theorem aqP{e:Expr}{t:TE}(h:PE X e t)(he:∀whole,isTrue e X.env whole=(do let v ←whole;standAt e.pos;holding [v] (truthy v)):=by intro _;rfl):PT X e (tB t):=by
 intro pins s σ H Q I hw
 refine isTrue_plain (thn (h pins s σ H _ I hw) fun v s1 ⟨x,H1,I1,r1,q1⟩=>?_) (he _)
 obtain⟨d,rfl,q⟩:=q1
 cases r1
 exact wpAny_truthy_bool ⟨H1,I1,q⟩
variable{tA tB':TT}{aa9:List Expr}
def asT(t u:TT):TT:=fun σ H Q=>t σ H fun c H1=>if c=true then u σ H1 Q else Q false H1
def tOr(t u:TT):TT:=fun σ H Q=>t σ H fun c H1=>if c=true then Q true H1 else u σ H1 Q
def asN(t:TT):TT:=fun σ H Q=>t σ H fun c H1=>Q (!c) H1
theorem aoI(ha:PT X a tA):PW X (.BoolOp .And [a] pos) tA:=by
 intro wh pins s σ H Q I h
 refine isTrue_and (thn (ha pins s σ H Q I h) fun c s1 e=>?_)
 cases c with
 |true=>exact isTrue_and_nil e
 |false=>exact e
theorem apZ(ha:PT X a tA):PW X (.BoolOp .Or [a] pos) tA:=by
 intro wh pins s σ H Q I h
 refine isTrue_or (thn (ha pins s σ H Q I h) fun c s1 e=>?_)
 cases c with
 |false=>exact isTrue_or_nil e
 |true=>exact e
theorem aqR(ha:PT X a tA)(hb:PW X (.BoolOp .And (b::aa9) pos) tB'):PW X (.BoolOp .And (a::b::aa9) pos) (asT tA tB'):=by
 intro wh pins s σ H Q I h
 refine isTrue_and (thn (ha pins s σ H _ I h) fun c s1 ⟨H1,I1,q1⟩=>?_)
 cases c with
 |true=>exact hb wh pins s1 σ H1 Q I1 q1
 |false=>exact⟨H1,I1,q1⟩
theorem asD(ha:PT X a tA)(hb:PW X (.BoolOp .Or (b::aa9) pos) tB'):PW X (.BoolOp .Or (a::b::aa9) pos) (tOr tA tB'):=by
 intro wh pins s σ H Q I h
 refine isTrue_or (thn (ha pins s σ H _ I h) fun c s1 ⟨H1,I1,q1⟩=>?_)
 cases c with
 |true=>exact⟨H1,I1,q1⟩
 |false=>exact hb wh pins s1 σ H1 Q I1 q1
theorem apD(ha:PT X a tA):PT X (.UnaryOp .Not a pos) (asN tA):=by
 intro pins s σ H Q I h
 exact isTrue_not (ha pins s σ H (fun c H1=>Q (!c) H1) I h)
def aoL(ta tb:TE):TE:=fun σ H Q=>ta σ H fun x H1=>∃c,x=.bl c/\if c=true then tb σ H1 Q else Q (.bl false) H1
def asS(ta tb:TE):TE:=fun σ H Q=>ta σ H fun x H1=>∃c,x=.bl c/\if c=true then Q (.bl true) H1 else tb σ H1 Q
theorem aqS{op}{t:TE}(h:PE X a t):PE X (.BoolOp op [a] pos) t:=fun pins s σ H Q I hw=>BoolOp_one (h pins s σ H Q I hw)
theorem aqC(ha:PE X a ta)(hb:PE X (.BoolOp .And (b::aa9) pos) tb):PE X (.BoolOp .And (a::b::aa9) pos) (aoL ta tb):=by
 intro pins s σ H Q I h
 refine BoolOp_and (thn (ha pins s σ H _ I h) fun v s1 ⟨x,H1,I1,r1,q1⟩=>?_)
 obtain⟨c,rfl,q1⟩:=q1
 cases r1
 refine wpAny_truthy_bool ?_
 cases c with
 |true=>exact hb pins s1 σ H1 Q I1 q1
 |false=>exact⟨.bl false,H1,I1,rfl,q1⟩
theorem aq8(ha:PE X a ta)(hb:PE X (.BoolOp .Or (b::aa9) pos) tb):PE X (.BoolOp .Or (a::b::aa9) pos) (asS ta tb):=by
 intro pins s σ H Q I h
 refine BoolOp_or (thn (ha pins s σ H _ I h) fun v s1 ⟨x,H1,I1,r1,q1⟩=>?_)
 obtain⟨c,rfl,q1⟩:=q1
 cases r1
 refine wpAny_truthy_bool ?_
 cases c with
 |false=>exact hb pins s1 σ H1 Q I1 q1
 |true=>exact⟨.bl true,H1,I1,rfl,q1⟩
def tIf(t:TT)(ta tb:TE):TE:=fun σ H Q=>t σ H fun c H1=>if c=true then ta σ H1 Q else tb σ H1 Q
theorem amB{c:Expr}(hc:PT X c tA)(ha:PE X a ta)(hb:PE X b tb):PE X (.IfExp c a b pos) (tIf tA ta tb):=by
 intro pins s σ H Q I h
 refine wpAny_IfExp (thn (hc pins s σ H _ I h) fun d s1 ⟨H1,I1,q1⟩=>?_)
 cases d with
 |true=>exact ha pins s1 σ H1 Q I1 q1
 |false=>exact hb pins s1 σ H1 Q I1 q1
end
def SqL(K:PySem.W.Frag)(H:Hp)(a:Addr)(xs:List V):Prop:=
 Rd H a (.lst xs)∨
  ∃(o:Obj) (its:Array Value) (n:Nat),K.lookup a=some o/\o.cls=.type "list"/\o.dict=none/\o.data=.seq its n/\its.size<=sizeLine/\Vals xs its.toList
def SqT(K:PySem.W.Frag)(H:Hp)(a:Addr)(xs:List V):Prop:=
 Rd H a (.tup xs)∨
  ∃(o:Obj) (its:Array Value) (n:Nat),K.lookup a=some o/\o.cls=.type "tuple"/\o.data=.seq its n/\its.size<=sizeLine/\Vals xs its.toList
def absV:Value->Option V
 |.none=>some .non
 |.bool b=>some (.bl b)
 |.int i _=>some (.int i)
 |.str x _=>some (.str x)
 |.bytes b _=>some (.byt b)
 |.float b _=>some (.flt b)
 |.ref a=>some (.ref a)
 |.type n=>some (.ty n)
 |_=>none
theorem RelV.abs{x:V}{u:Value}(r:RelV x u):absV u=some x:=by
 cases x with
 |non=>cases r;rfl
 |bl _=>cases r;rfl
 |int _=>obtain⟨t,rfl⟩:=r;rfl
 |str _=>obtain⟨t,rfl⟩:=r;rfl
 |byt _=>obtain⟨t,rfl⟩:=r;rfl
 |flt _=>obtain⟨t,rfl⟩:=r;rfl
 |ref _=>cases r;rfl
 |ty _=>cases r;rfl
theorem RelV.inj{x y:V}{u:Value}(r:RelV x u)(q:RelV y u):x=y:=Option.some.inj (r.abs.symm.trans q.abs)
theorem Vals.inj:∀{xs ys:List V} {us:List Value},Vals xs us->Vals ys us->xs=ys
 |_,_,_,.nil,.nil=>rfl
 |_,_,_,.cons r t,.cons r' t'=>by rw[r.inj r',Vals.inj t t']
section
variable{X:Cx}{pins:List (Addr×Obj)}{σ:St}{H:Hp}{s:Shared}{a:Addr}{xs ys:List V}
theorem SqL.of{K:PySem.W.Frag}(h:H a=some (.lst xs)):SqL K H a xs:=.inl (.inl h)
theorem SqT.of{K:PySem.W.Frag}(h:H a=some (.tup xs)):SqT K H a xs:=.inl (.inl h)
theorem Inv.list(I:Inv X pins σ H s)(h:SqL X.K H a xs):∃its:List Value,Vals xs its/\PlainL s.heap a its.toArray/\xs.length<=sizeLine:=by
 rcases h with h | ⟨o,its,n,hk,hc,hd,hs,hz,r⟩
 ·obtain⟨z,its,n,r,e⟩:=h.ok I.hok
  exact⟨its,r,⟨_,n,e,rfl,rfl,rfl⟩,z⟩
 ·refine⟨its.toList,r,⟨o,n,I.kIn a o hk,hc,hd,by simpa using hs⟩,?_⟩
  have e:=r.length
  simp only[Array.length_toList] at e
  omega
theorem Inv.tuple(I:Inv X pins σ H s)(h:SqT X.K H a xs):∃its:List Value,Vals xs its/\IsTup s.heap a its.toArray/\xs.length<=sizeLine:=by
 rcases h with h | ⟨o,its,n,hk,hc,hs,hz,r⟩
 ·obtain⟨z,its,r,p⟩:=h.ok I.hok
  exact⟨its,r,p,z⟩
 ·refine⟨its.toList,r,⟨o,I.kIn a o hk,hc,n,by simpa using hs⟩,?_⟩
  have e:=r.length
  simp only[Array.length_toList] at e
  omega
theorem Inv.list_inj(I:Inv X pins σ H s)(h:SqL X.K H a xs)(h':SqL X.K H a ys):xs=ys:=by
 obtain⟨its,r,⟨o,n,e,_,_,d⟩,_⟩:=I.list h
 obtain⟨its',r',⟨o',n',e',_,_,d'⟩,_⟩:=I.list h'
 rw[e] at e';cases e'
 rw[d] at d'
 injection d' with d1 _
 have:its=its':=by simpa using congrArg Array.toList d1
 subst this
 exact r.inj r'
end
abbrev Cx.wish(X:Cx)(E:Value->Shared->Prop):Cx:={X with xe:=E}
abbrev Cx.nox(X:Cx):Cx:=X.wish fun _ _=>False
theorem Cx.Ok.wish{X:Cx}(ok:X.Ok)(E:Value->Shared->Prop):(X.wish E).Ok:=
 ⟨ok.mod,ok.kind,ok.glob,ok.blt,ok.above,ok.inj,ok.has,ok.cab,ok.hd,ok.frames,ok.stk,ok.exf,ok.bs,ok.bsz,ok.noex,ok.exfs,ok.funs,ok.frf⟩
theorem Cx.Ok.unwish{X:Cx}{E:Value->Shared->Prop}(ok:(X.wish E).Ok):X.Ok:=
 ⟨ok.mod,ok.kind,ok.glob,ok.blt,ok.above,ok.inj,ok.has,ok.cab,ok.hd,ok.frames,ok.stk,ok.exf,ok.bs,ok.bsz,ok.noex,ok.exfs,ok.funs,ok.frf⟩
section
variable{X:Cx}{pins:List (Addr×Obj)}{σ:St}{H:Hp}{s:Shared}{E:Value->Shared->Prop}
theorem Inv.wish(I:Inv X pins σ H s)(E:Value->Shared->Prop):Inv (X.wish E) pins σ H s:=⟨I.ok.wish E,I.os,I.bare,I.base,I.loc,I.cell,I.free,I.freeC,I.pin,I.hok,I.len⟩
theorem Inv.unwish(I:Inv (X.wish E) pins σ H s):Inv X pins σ H s:=⟨I.ok.unwish,I.os,I.bare,I.base,I.loc,I.cell,I.free,I.freeC,I.pin,I.hok,I.len⟩
theorem SP.unwish{D:Ends}{f:Flow}{s':Shared}(h:SP (X.wish E) pins D f s'):SP X pins D f s':=by
 cases f with
 |next=>obtain⟨σ',H',I,q⟩:=h;exact⟨σ',H',I.unwish,q⟩
 |brk=>obtain⟨σ',H',I,q⟩:=h;exact⟨σ',H',I.unwish,q⟩
 |cont=>obtain⟨σ',H',I,q⟩:=h;exact⟨σ',H',I.unwish,q⟩
 |ret u=>obtain⟨v,σ',H',I,r,q⟩:=h;exact⟨v,σ',H',I.unwish,r,q⟩
theorem PSs.nox{st:List Stmt}{t:TS}(h:PSs X.nox st t):PSs X st t:=fun pins s σ H D I hw=>
 wpAny_mono (h pins s σ H D (I.wish _) hw) (fun _ _ q=>q.unwish) fun _ _ z=>False.elim z
end
section
variable{X:Cx}{st:Stmt}{aa9:List Stmt}{t u:TS}{e:Expr}{te:TE}{pos:Pos}
def aoP:TS:=fun D σ H=>D.nx σ H
def ar2(t u:TS):TS:=fun D σ H=>t {D with nx:=u D} σ H
theorem anN:PSs X [] aoP:=fun _ _ σ H _ I h=>wpAny_execs_nil ⟨σ,H,I,h⟩
theorem alU(h1:PS X st t)(h2:PSs X aa9 u):PSs X (st::aa9) (ar2 t u):=by
 intro pins s σ H D I h
 refine wpAny_execs_cons (thn (h1 pins s σ H {D with nx:=u D} I h) fun f s1 q=>?_)
 cases f with
 |next=>
  obtain⟨σ',H',I',q⟩:=q
  exact h2 pins s1 σ' H' D I' q
 |ret v=>exact q
 |brk=>exact q
 |cont=>exact q
theorem aoC(h1:PS X st t):PSs X [st] t:=by
 intro pins s σ H D I h
 refine wpAny_execs_cons (thn (h1 pins s σ H D I h) fun f s1 q=>?_)
 cases f with
 |next=>exact wpAny_execs_nil q
 |ret v=>exact q
 |brk=>exact q
 |cont=>exact q
theorem Inv.quiet{pins:List (Addr×Obj)}{σ:St}{H:Hp}{s:Shared}(I:Inv X pins σ H s):interactive X.env=false:=by simp[interactive,I.ok.kind]
def aoX(te:TE):TS:=fun D σ H=>te σ H fun _ H1=>D.nx σ H1
theorem am6(he:PE X e te)(hs:swapsWith e none pos.line X.env=pure false:=by rfl):PS X (.Expr e pos) (aoX te):=by
 intro pins s σ H D I h
 exact wpAny_Expr_any (thn (he pins s σ H _ I h) fun v s1 ⟨x,H1,I1,r1,q1⟩=>⟨σ,H1,I1,q1⟩) I.quiet hs
def asG(te:TE):TS:=fun D σ H=>te σ H D.rt
theorem ao2(he:PE X e te):PS X (.Return (some e) pos) (asG te):=by
 intro pins s σ H D I h
 exact wpAny_Return_some (thn (he pins s σ H _ I h) fun v s1 ⟨x,H1,I1,r1,q1⟩=>⟨x,σ,H1,I1,r1,q1⟩)
def arU(c:TT)(t u:TS):TS:=fun D σ H=>c σ H fun b H1=>if b=true then t D σ H1 else u D σ H1
theorem arG{c:Expr}{a b:List Stmt}{tc:TT}(hc:PT X c tc)(ha:PSs X a t)(hb:PSs X b u):PS X (.If c a b pos) (arU tc t u):=by
 intro pins s σ H D I h
 refine wpAny_If (thn (hc pins s σ H _ I h) fun d s1 ⟨H1,I1,q1⟩=>?_)
 cases d with
 |true=>exact ha pins s1 σ H1 D I1 q1
 |false=>exact hb pins s1 σ H1 D I1 q1
end
abbrev TG:=V->St->Hp->(St->Hp->Prop)->Prop
abbrev TGs:=List V->St->Hp->(St->Hp->Prop)->Prop
def PG(X:Cx)(target:Expr)(t:TG):Prop:=
 ∀(pins:List (Addr×Obj)) (s:Shared) (σ:St) (H:Hp) (v:V) (u:Value) (Q:St->Hp->Prop),Inv X pins σ H s->RelV v u->t v σ H Q->
  wpAny (model X.prog X.w) X.A (assign target X.env u) (fun _ s'=>∃σ' H',Inv X pins σ' H' s'/\Q σ' H') X.xe s
def PGs(X:Cx)(ts:List Expr)(t:TGs):Prop:=
 ∀(pins:List (Addr×Obj)) (s:Shared) (σ:St) (H:Hp) (vs:List V) (us:List Value) (Q:St->Hp->Prop),Inv X pins σ H s->Vals vs us->t vs σ H Q->
  wpAny (model X.prog X.w) X.A (assignInOrder ((assignEach ts X.env).map (·.2)) us) (fun _ s'=>∃σ' H',Inv X pins σ' H' s'/\Q σ' H') X.xe s
abbrev apP:=V->V->V->Hp->(Hp->Prop)->Prop
def asQ(X:Cx)(t:apP):Prop:=
 ∀(pins:List (Addr×Obj)) (s:Shared) (σ:St) (H:Hp) (o i v:V) (ov iv u:Value) (Q:Hp->Prop),Inv X pins σ H s->RelV o ov->RelV i iv->RelV v u->t o i v H Q->
  wpAny (model X.prog X.w) X.A (setItem ov iv u) (fun _ s'=>∃H',Inv X pins σ H' s'/\Q H') X.xe s
section
variable{X:Cx}{pos:Pos}
def acZ(i:Nat):TG:=fun v σ H Q=>Q (σ.set i (some v)) H
theorem an1{i:Nat}{x:Str}(hN:X.N.Nodup)(hi:X.N[i]? =some x)(hx:Loc X.env.scope x)(hf:X.fn x=true∨X.env.scope.names.lookup x=some .local:=by first | exact .inl rfl | exact .inr rfl | assumption):PG X (.Name x pos) (acZ i):=by
 intro pins s σ H v u Q I r h
 exact wpAny_assign_Name (ae1 I hN hi hx r (fun s' I'=>⟨_,H,I',h⟩) hf)
def ap5:TGs:=fun vs σ H Q=>vs=[]/\Q σ H
def ai4(t:TG)(u:TGs):TGs:=fun vs σ H Q=>∃v r,vs=v::r/\t v σ H fun σ' H'=>u r σ' H' Q
theorem am8:PGs X [] ap5:=by
 intro pins s σ H vs us Q I r h
 obtain⟨e,h⟩:=h
 subst e
 cases r
 exact assignInOrder_nil ⟨σ,H,I,h⟩
theorem amX{e:Expr}{es:List Expr}{t:TG}{u:TGs}(h1:PG X e t)(h2:PGs X es u)
  (hs:(assignEach (e::es) X.env).map (·.2)=assign e X.env::(assignEach es X.env).map (·.2):=by rfl):PGs X (e::es) (ai4 t u):=by
 intro pins s σ H vs us Q I r h
 obtain⟨v,vr,e1,h⟩:=h
 subst e1
 cases r with
 |cons r rr=>
  rw[hs]
  refine assignInOrder_cons (thn (h1 pins s σ H _ _ _ I r h) fun _ s1 ⟨σ1,H1,I1,q1⟩=>?_)
  exact h2 pins s1 σ1 H1 _ _ Q I1 rr q1
def anB(K:PySem.W.Frag)(n:Nat)(t:TGs):TG:=fun v σ H Q=>∃a xs,v=.ref a/\SqT K H a xs/\xs.length=n/\t xs σ H Q
theorem aqQ{es:List Expr}{k:Nat}{t:TGs}{n:Nat}(hc:X.calm=true)(h:PGs X es t)
  (hn:(assignEach es X.env).length=n:=by rfl) (hst:(assignEach es X.env).findIdx? (·.1)=none:=by rfl):PG X (.Tuple es k pos) (anB X.K n t):=by
 intro pins s σ H v u Q I r hw
 obtain⟨a,xs,e1,hq,hl,hw⟩:=hw
 subst e1
 cases r
 obtain⟨its,rv,ht,hz⟩:=I.tuple hq
 refine assign_Tuple_tuple (I.ok.hd hc) ht (by simp[hn,←hl,rv.length]) hst fun h' hx=>?_
 have I1:Inv X pins σ H {s with heap:=h'}:=I.kept (t':=s.toks) fun b o e=>hx b o (Nat.ne_of_lt (Heap.lt_size e)) e
 exact h pins _ σ H xs _ Q I1 (by simpa using rv) hw
def arN(to ti:TE)(t:apP):TG:=fun v σ H Q=>to σ H fun o H1=>ti σ H1 fun i H2=>t o i v H2 fun H3=>Q σ H3
theorem ao3{o i:Expr}{to ti:TE}{t:apP}(ho:PE X o to)(hi:PE X i ti)(hs:asQ X t)
  (ha:∀v,assign (.Subscript o i pos) X.env v=(do
   let ov ←holding [v] (eval o X.env)
   let iv ←holding [v,ov] (eval i X.env)
   standAt pos
   holding [v,ov,iv] (setItem ov iv v)
   release [v,ov,iv] []):=by intro _;rfl):PG X (.Subscript o i pos) (arN to ti t):=by
 intro pins s σ H v u Q I r h
 rw[ha]
 refine wpAny_bind (wpAny_holding (thn (ho pins s σ H _ I h) fun ov s1 ⟨x,H1,I1,r1,q1⟩=>?_))
 refine wpAny_bind (wpAny_holding (thn (hi pins s1 σ H1 _ I1 q1) fun iv s2 ⟨y,H2,I2,r2,q2⟩=>?_))
 refine wpAny_bind (wpAny_standAt (wpAny_bind (wpAny_holding (thn (hs pins s2 σ H2 x y v ov iv u _ I2 r1 r2 r q2) fun _ s3 ⟨H3,I3,q3⟩=>?_))))
 exact wpAny_release ⟨σ,H3,I3,q3⟩
def alK(te:TE)(g:TG):TS:=fun D σ H=>te σ H fun x H1=>g x σ H1 D.nx
theorem ao5{tg e:Expr}{te:TE}{g:TG}(he:PE X e te)(hg:PG X tg g)(hs:swapsWithSole [tg] e pos.line X.env=pure false:=by rfl)(hw:swappedStores [tg] e X.env=pure none:=by rfl)
  (h1:(assignEach [tg] X.env).map (·.2)=[assign tg X.env]:=by rfl):PS X (.Assign [tg] e pos) (alK te g):=by
 intro pins s σ H D I h
 refine wpAny_Assign_stores (thn (he pins s σ H _ I h) fun v s1 ⟨x,H1,I1,r1,q1⟩=>?_) hs hw
 rw[h1]
 exact thn (hg pins s1 σ H1 x v _ I1 r1 q1) fun _ s2 q=>q
theorem ap4{i:Nat}{x:Str}{e:Expr}{te:TE}{pos':Pos}(hN:X.N.Nodup)(hi:X.N[i]? =some x)(hx:Loc X.env.scope x)(he:PE X e te)(hs:swapsWith e (some (.Name x pos')) pos.line X.env=pure false:=by rfl)(hf:X.fn x=true∨X.env.scope.names.lookup x=some .local:=by first | exact .inl rfl | exact .inr rfl | assumption):
  PS X (.Assign [.Name x pos'] e pos) (alK te (acZ i)):=by
 intro pins s σ H D I h
 refine wpAny_Assign_Name (thn (he pins s σ H _ I h) fun v s1 ⟨y,H1,I1,r1,q1⟩=>?_) hs
 exact ae1 I1 hN hi hx r1 (fun s2 I2=>⟨_,H1,I2,q1⟩) hf
end
section
variable{X:Cx}{pos:Pos}
end
structure It where
 go:Nat->Hp->Prop
 yld:Nat->Hp->V->Hp->Prop
 stop:Nat->Hp->Prop
def abF(X:Cx)(pins:List (Addr×Obj))(H:Hp)(b:Addr):Prop:=
 H b=none/\b≠X.env.locals/\b∉X.fs/\(b∈X.ex∨X.s₀.heap.objs.size<=b)/\(∀x c,X.env.cells.lookup x=some c->c≠b)/\∀p∈X.pn++pins,p.1≠b
theorem Inv.fpOk{X:Cx}{pins:List (Addr×Obj)}{σ:St}{H H':Hp}{s:Shared}{b:Addr}(I:Inv X pins σ H s)(hb:s.heap.objs.size<=b)(hn:H' b=none):abF X pins H' b:=by
 refine⟨hn,Nat.ne_of_gt (Nat.lt_of_lt_of_le I.lt hb),I.nofs hb,.inr (Nat.le_trans I.sz hb),fun x c e z=>?_,fun p hp z=>?_⟩
 ·obtain⟨v,q⟩:=I.cell x c e
  exact absurd (Nat.lt_of_lt_of_le q.lt (by rw[z];exact hb)) (Nat.lt_irrefl _)
 ·exact absurd (Nat.lt_of_lt_of_le (Heap.lt_size (I.pin p hp).1) (by rw[z];exact hb)) (Nat.lt_irrefl _)
structure Turn(P:Program)(w:World)(K:PySem.W.Frag)(tg:Expr)(J:It)(fp:List Addr)(it:Addr)(tn:Nat->Heap->Prop):Prop where
 mem:it∈fp
 obj:∀i h,tn i h->∀b∈fp,∃o,h.get? b=some o/\∀v,o.data≠ .cell v
 keep:∀i h h',tn i h->(∀b∈fp,∀o,h.get? b=some o->h'.get? b=some o)->tn i h'
 item:∀(X:Cx),X.prog=P->X.w=w->X.K=K->X.calm=true->∀(i:Nat) (pins:List (Addr×Obj)) (s:Shared) (σ:St) (H:Hp) (E:Value->Shared->Prop),Inv X pins σ H s->(∀b∈fp,abF X pins H b)->tn i s.heap->J.go i H->
  wpAny (model P w) X.A (pyNext (.ref it)) (fun r s1=>∃u,r=some u/\
   wpAny (model P w) X.A (letOwnedTupleGo tg (.ref it) u) (fun _ s2=>∃x H',Inv X pins σ H' s2/\RelV x u/\J.yld i H x H'/\tn (i+1) s2.heap/\∀b∈fp,H' b=none) E s1) E s
 done:∀(X:Cx),X.prog=P->X.w=w->X.K=K->X.calm=true->∀(i:Nat) (pins:List (Addr×Obj)) (s:Shared) (σ:St) (H:Hp) (E:Value->Shared->Prop),Inv X pins σ H s->(∀b∈fp,abF X pins H b)->tn i s.heap->J.stop i H->
  wpAny (model P w) X.A (pyNext (.ref it)) (fun r s1=>r=none/\Inv X pins σ H s1) E s
 self:∀(A:Around) (i:Nat) (s:Shared) (Q:Value->Shared->Prop) (E:Value->Shared->Prop),tn i s.heap->Q (.ref it) s->wpAny (model P w) A (pyIter (.ref it)) Q E s
abbrev TI:=St->Hp->(It->Hp->Prop)->Prop
def PIE(X:Cx)(pins:List (Addr×Obj))(σ:St)(tg:Expr)(R:It->Hp->Prop)(itv:Value)(s2:Shared):Prop:=
 ∃(it:Addr) (fp:List Addr) (tn:Nat->Heap->Prop) (J:It) (H':Hp),itv=.ref it/\Inv X pins σ H' s2/\Turn X.prog X.w X.K tg J fp it tn/\tn 0 s2.heap/\(∀b∈fp,abF X pins H' b)/\R J H'
def PI(X:Cx)(tg iter:Expr)(wi:TI):Prop:=
 ∀(pins:List (Addr×Obj)) (s:Shared) (σ:St) (H:Hp) (R:It->Hp->Prop),Inv X pins σ H s->wi σ H R->
  wpAny (model X.prog X.w) X.A (eval iter X.env) (fun v s1=>wpAny (model X.prog X.w) X.A (pyIter v) (PIE X pins σ tg R) X.xe s1) X.xe s
theorem aoQ{M:Model}{A:Around}{E:Value->Shared->Prop}{s:Shared}{tg:Expr}{it:Addr}{u:Value}{o:Obj}{n:String}{vs:Array Value}{Q:Unit->Shared->Prop}(ho:s.heap.get? it=some o)(hc:o.cls=.type n)(hd:o.data=.fields vs)
  (hn:["enumerate","zip","dict_itemiterator","dict_reverseitemiterator","odict_iterator","itertools.zip_longest","itertools.pairwise"].contains n=false) (hQ:Q () s):wpAny M A (letOwnedTupleGo tg (.ref it) u) Q E s:=by
 unfold letOwnedTupleGo
 cases tg<;>first
  |exact wpAny_pure hQ
  |(cases u<;>first
    |exact wpAny_pure hQ
    |(refine wpAny_bind (wpAny_load ho ?_)
      rw[hc,hd]
      show wpAny M A (if (["enumerate","zip","dict_itemiterator","dict_reverseitemiterator","odict_iterator","itertools.zip_longest","itertools.pairwise"].contains n&&vs[0]? ==some (rawInt _))=true then _ else _) Q E s
      rw[if_neg (by intro h;rw[hn,Bool.false_and] at h;cases h)]
      exact wpAny_pure hQ))
def Itl(K:PySem.W.Frag)(a:Addr):It:=
 ⟨fun i H=>∃xs x,SqL K H a xs/\xs[i]? =some x,fun i H x H'=>H'=H/\∀xs,SqL K H a xs->xs[i]? =some x,fun i H=>∃xs,SqL K H a xs/\xs.length<=i⟩
def Itr(lo:Int)(n:Nat):It:=⟨fun i _=>i<n,fun i H x H'=>H'=H/\x=.int (lo+i),fun i _=>n<=i⟩
theorem akC{P:Program}{w:World}{K:PySem.W.Frag}{tg:Expr}(a it:Addr):Turn P w K tg (Itl K a) [it] it (fun i h=>h.IsListIter it a i) where
 mem:=by simp
 obj:=fun i h st b hb=>by
  have e:b=it:=by simpa using hb
  subst e
  obtain⟨o,e,c,d⟩:=st
  exact⟨o,e,fun v z=>by rw[d] at z;cases z⟩
 keep:=fun i h h' st k=>st.at fun o e=>k it (by simp) o e
 item:=by
  intro X hP hw hK hc i pins s σ H E I hf st hg
  subst hP hw hK
  obtain⟨xs,x,hq,hx⟩:=hg
  obtain⟨its,rv,p,hz⟩:=I.list hq
  obtain⟨u,hu,ru⟩:=rv.get hx
  obtain⟨f0,f1,f2,f3,f4,f5⟩:=hf it (by simp)
  refine wpAny_pyNext_list_item st p.isList (x:=u) (by simpa using hu) fun h' st' sb=>?_
  have I1:Inv X pins σ H {s with heap:=h'}:=I.turned (t':=s.toks) (fun b o hb e=>(sb.2 b hb).trans e) f0 f1 f3 f4 f5
  obtain⟨o,e,c,d⟩:=id st'
  exact⟨u,rfl,aoQ (s:={s with heap:=h'}) e c d (by decide) ⟨x,H,I1,ru,⟨rfl,fun ys hy=>by rw[I.list_inj hy hq];exact hx⟩,st',fun b hb=>(hf b hb).1⟩⟩
 done:=by
  intro X hP hw hK hc i pins s σ H E I hf st hg
  subst hP hw hK
  obtain⟨xs,hq,hx⟩:=hg
  obtain⟨its,rv,p,hz⟩:=I.list hq
  obtain⟨f0,f1,f2,f3,f4,f5⟩:=hf it (by simp)
  have hl:=rv.length
  exact wpAny_pyNext_list_end (I.ok.hd hc) st p.isList (by simp;omega) fun h' eb=>⟨rfl,I.turned (t':=s.toks) (fun b o hb e=>eb b o hb e) f0 f1 f3 f4 f5⟩
 self:=fun _ _ _ _ _ st h=>wpAny_pyIter_listiter st h
theorem aiL{P:Program}{w:World}{K:PySem.W.Frag}{tg:Expr}(it:Addr)(lo:Int)(n:Nat):Turn P w K tg (Itr lo n) [it] it (fun i h=>IsRangeIter h it (lo+(i:Nat)*1) ((n:Int)-(i:Nat)) 1) where
 mem:=by simp
 obj:=fun i h st b hb=>by
  have e:b=it:=by simpa using hb
  subst e
  exact⟨_,st,fun v z=>by
   have z':Data.fields _=Data.cell v:=z
   cases z'⟩
 keep:=fun i h h' st k=>k it (by simp) _ st
 item:=by
  intro X hP hw hK hc i pins s σ H E I hf st hg
  subst hP hw hK
  obtain⟨f0,f1,f2,f3,f4,f5⟩:=hf it (by simp)
  have W:=Walks.range (prog:=X.prog) (w:=X.w) (I.ok.hd hc) it lo 1 n
  refine W.item i s _ _ hg st fun v h' tk hv st' kk=>?_
  obtain⟨t,rfl⟩:=hv
  have I1:Inv X pins σ H {s with heap:=h',toks:=tk}:=I.turned (fun b o hb e=>kk b o (by simpa using hb) e) f0 f1 f3 f4 f5
  refine⟨_,rfl,aoQ (s:={s with heap:=h',toks:=tk}) (n:="range_iterator") st' rfl rfl (by decide) ⟨.int (lo+i),H,I1,⟨t,?_⟩,⟨rfl,rfl⟩,st',fun b hb=>(hf b hb).1⟩⟩
  rw[Int.mul_one]
 done:=by
  intro X hP hw hK hc i pins s σ H E I hf st hg
  subst hP hw hK
  obtain⟨f0,f1,f2,f3,f4,f5⟩:=hf it (by simp)
  exact wpAny_pyNext_range_end (I.ok.hd hc) st (by have:n<=i:=hg;omega) fun h' eb=>⟨rfl,I.turned (t':=s.toks) (fun b o hb e=>eb b o hb e) f0 f1 f3 f4 f5⟩
 self:=fun _ _ _ _ _ st h=>wpAny_pyIter_rangeiter st h
section
variable{X:Cx}{tg:Expr}
def alV(K:PySem.W.Frag)(tl:TE):TI:=fun σ H R=>tl σ H fun x H1=>∃a,x=.ref a/\(∃xs,SqL K H1 a xs)/\R (Itl K a) H1
theorem anJ{l:Expr}{tl:TE}(hl:PE X l tl):PI X tg l (alV X.K tl):=by
 intro pins s σ H R I h
 refine thn (hl pins s σ H _ I h) fun v s1 ⟨x,H1,I1,r1,q1⟩=>?_
 obtain⟨a,e,⟨xs,hq⟩,q⟩:=q1
 subst e
 cases r1
 obtain⟨its,rv,p,hz⟩:=I1.list hq
 refine wpAny_pyIter_list p.isList ?_
 refine⟨s1.heap.objs.size,[s1.heap.objs.size],_,_,H1,rfl,I1.kept (t':=s1.toks) fun b o e=>Heap.get?_push_of_some _ e,akC a _,⟨_,Heap.get?_push_size _ rfl,rfl,rfl⟩,fun b hb=>?_,q⟩
 have e:b=s1.heap.objs.size:=by simpa using hb
 subst e
 exact I1.fpOk (Nat.le_refl _) (I1.hok.fresh (Nat.le_refl _))
theorem alL{pins:List (Addr×Obj)}{σ:St}{H:Hp}{s:Shared}{R:It->Hp->Prop}{E:Value->Shared->Prop}{lo hi:Int}{t u v:Tok}{tk:Nat}(I:Inv X pins σ H s)(h1: -(2^62)<=lo)(h2:lo<2^62)(h3: -(2^62)<=hi)(h4:hi<2^62)
  (q:R (Itr lo (hi-lo).toNat) H):wpAny (model X.prog X.w) X.A (pyIter (.ref s.heap.objs.size)) (PIE X pins σ tg R) E {s with heap:=s.heap.push {cls:=.type "range",data:=.fields #[.int lo t,.int hi u,.int 1 v]},toks:=tk}:=by
 refine wpAny_pyIter_range (IsRange.new ..) (small_one h1 h2 h3 h4) ?_
 have I1:Inv X pins σ H {s with heap:=s.heap.push {cls:=.type "range",data:=.fields #[.int lo t,.int hi u,.int 1 v]},toks:=tk}:=I.kept fun b o e=>Heap.get?_push_of_some _ e
 refine⟨(s.heap.push {cls:=.type "range",data:=.fields #[.int lo t,.int hi u,.int 1 v]}).objs.size,[(s.heap.push {cls:=.type "range",data:=.fields #[.int lo t,.int hi u,.int 1 v]}).objs.size],_,_,H,rfl,
  I1.kept (t':=tk) fun b o e=>Heap.get?_push_of_some _ e,aiL _ lo (hi-lo).toNat,?_,fun b hb=>?_,q⟩
 ·have e1:lo+((0:Nat):Int)*1=lo:=by simp
  have e2:(((hi-lo).toNat:Nat):Int)-((0:Nat):Int)=Builtin.Range.rangeSize lo hi 1:=by rw[rangeSize_one];split<;>omega
  show IsRangeIter _ _ (lo+((0:Nat):Int)*1) ((((hi-lo).toNat:Nat):Int)-((0:Nat):Int)) 1
  rw[e1,e2]
  exact Heap.get?_push_size _ rfl
 ·have e:b=(s.heap.push {cls:=.type "range",data:=.fields #[.int lo t,.int hi u,.int 1 v]}).objs.size:=by simpa using hb
  subst e
  exact I1.fpOk (Nat.le_refl _) (I1.hok.fresh (Nat.le_refl _))
def aoO(ta:TA):TI:=fun σ H R=>ta σ H fun vs H1=>∃j:Int,vs=[.int j]/\ -(2^62)<=j/\j<2^62/\R (Itr 0 j.toNat) H1
theorem akT{a:Expr}{ta:TA}{p pos:Pos}(hg:Gl X "range")(hm:X.mg "range"=none)(ha:PA X [a] ta)(hs:starEach [a] X.env=[(false,eval a X.env)]:=by rfl):PI X tg (.Call (.Name "range" p) [a] [] pos) (aoO ta):=by
 intro pins s σ H R I h
 refine Call_ (aeR I hg hm boot_range (PyProof.Rows.callWith_type1 (thn (ha pos pins s σ H _ I h) fun us s1 ⟨vs,H1,I1,r1,q1⟩=>?_) hs rfl))
 obtain⟨j,e,q1,q2,q⟩:=q1
 subst e
 cases r1 with
 |cons r rr=>
  cases rr
  obtain⟨t,rfl⟩:=r
  exact call_range_1 (alL I1 (by omega) (by omega) q1 q2 (by simpa using q))
def arH(wi:TI)(g:TG)(tb:TS):TS:=fun D σ H=>wi σ H fun J H1=>∃W:Nat->Nat->St->Hp->Prop,(∃m,W 0 m σ H1)/\∀i m σ H,W i m σ H->
 (J.stop i H/\D.nx σ H)∨(J.go i H/\∃N:St->Hp->Prop,(∀σ' H',N σ' H'->∃m',m'<m/\W (i+1) m' σ' H')/\∀x H',J.yld i H x H'->g x σ H' fun σ2 H2=>tb {D with nx:=N,ct:=N,bk:=D.nx} σ2 H2)
def ab7(fp:List Addr)(h:Heap):List (Addr×Obj):=fp.filterMap fun b=>(h.get? b).map fun o=>(b,o)
theorem aaR{fp:List Addr}{h:Heap}{b:Addr}{o:Obj}(hb:b∈fp)(e:h.get? b=some o):(b,o)∈ab7 fp h:=List.mem_filterMap.mpr ⟨b,hb,by rw[e];rfl⟩
theorem aj1{fp:List Addr}{h:Heap}{p:Addr×Obj}(hp:p∈ab7 fp h):p.1∈fp/\h.get? p.1=some p.2:=by
 obtain⟨b,hb,e⟩:=List.mem_filterMap.mp hp
 cases q:h.get? b with
 |none=>rw[q] at e;cases e
 |some o=>
  rw[q] at e
  have e':(b,o)=p:=Option.some.inj e
  subst e'
  exact⟨hb,q⟩
theorem Inv.pinned{pins:List (Addr×Obj)}{σ:St}{H:Hp}{s:Shared}{fp:List Addr}(I:Inv X pins σ H s)(hf:∀b∈fp,abF X pins H b)(ho:∀b∈fp,∃o,s.heap.get? b=some o/\∀v,o.data≠ .cell v):Inv X (pins++ab7 fp s.heap) σ H s:=
 I.pins_of fun p hp=>(List.mem_append.mp hp).elim (fun z=>I.pin p (List.mem_append_right _ z)) fun z=>by
  obtain⟨hb,e⟩:=aj1 z
  obtain⟨f0,f1,f2,_⟩:=hf p.1 hb
  obtain⟨o,e',d⟩:=ho p.1 hb
  rw[e] at e';cases e'
  exact⟨e,f0,f1,f2,d⟩
theorem Inv.unpinned{pins pl:List (Addr×Obj)}{σ:St}{H:Hp}{s:Shared}(I:Inv X (pins++pl) σ H s):Inv X pins σ H s:=I.pins_of fun p hp=>I.pin p (List.mem_append_right _ (List.mem_append_left _ hp))
theorem aqD{iter:Expr}{body:List Stmt}{wi:TI}{g:TG}{tb:TS}{pos:Pos}(hp:PassesOwn (model X.prog X.w) X.A X.env X.xe)(hc:X.calm=true)(hi:PI X tg iter wi)(hg:PG X tg g)(hb:PSs X body tb)
  (hs:∀x,foldedSetIterable iter X.env x=pure x:=by intro _;rfl):PS X (.For tg iter body [] pos) (arH wi g tb):=by
 intro pins s σ H D I h
 refine wpAny_For (thn (hi pins s σ H _ I h) fun v s1 h1=>thn h1 fun itv s2 h2=>?_) hs
 obtain⟨it,fp,tn,J,H2,e,I2,T,st2,f2,W,⟨m0,w0⟩,aaU⟩:=h2
 subst e
 -- what stays true of the iterator's objects through the loop
 have stat:∀{H':Hp},(∀b∈fp,H' b=none)->∀b∈fp,abF X pins H' b:=fun hn b hb=>⟨hn b hb,(f2 b hb).2⟩
 refine codeAny_forLoop_any (fun n s'=>∃i σ' H',Inv X pins σ' H' s'/\tn i s'.heap/\(∀b∈fp,H' b=none)/\W i n σ' H') ?_ m0 ⟨0,σ,H2,I2,st2,fun b hb=>(f2 b hb).1,w0⟩
 rintro n s3 ⟨i,σ3,H3,I3,st3,fr3,w3⟩
 rcases aaU i n σ3 H3 w3 with ⟨stop,qn⟩ | ⟨go,N,hN,step⟩
 ·refine wpAny_passesOwn hp (thn (T.done X rfl rfl rfl hc i pins s3 σ3 H3 X.xe I3 (stat fr3) st3 stop) fun r s4 ⟨hr,I4⟩=>?_)
  subst hr
  exact wpAny_execs_nil ⟨σ3,H3,I4,qn⟩
 ·refine wpAny_passesOwn hp (thn (T.item X rfl rfl rfl hc i pins s3 σ3 H3 X.xe I3 (stat fr3) st3 go) fun r s4 ⟨u,hr,h4⟩=>?_)
  subst hr
  refine wpAny_passesOwn hp (thn h4 fun _ s5 ⟨x,H5,I5,r5,y5,st5,fr5⟩=>?_)
  have I5':=I5.pinned (stat fr5) (T.obj _ _ st5)
  refine wpAny_passesOwn hp (thn (hg _ s5 σ3 H5 x u _ I5' r5 (step x H5 y5)) fun _ s6 ⟨σ6,H6,I6,q6⟩=>?_)
  refine wpAny_passesOwn hp (thn (hb _ s6 σ6 H6 _ I6 q6) fun f s7 q7=>?_)
  have again:∀{σ7:St} {H7:Hp},Inv X (pins++ab7 fp s5.heap) σ7 H7 s7->N σ7 H7->∃m,m<n/\∃i σ' H',Inv X pins σ' H' s7/\tn i s7.heap/\(∀b∈fp,H' b=none)/\W i m σ' H':=fun {σ7 H7} I7 n7=>by
   obtain⟨m',hm,w7⟩:=hN σ7 H7 n7
   refine⟨m',hm,i+1,σ7,H7,I7.unpinned,T.keep _ _ _ st5 fun b hb o e=>(I7.pin (b,o) (List.mem_append_right _ (List.mem_append_right _ (aaR hb e)))).1,fun b hb=>?_,w7⟩
   obtain⟨o,e,d⟩:=T.obj _ _ st5 b hb
   exact (I7.pin (b,o) (List.mem_append_right _ (List.mem_append_right _ (aaR hb e)))).2.1
  cases f with
  |next=>obtain⟨σ7,H7,I7,n7⟩:=q7;exact again I7 n7
  |cont=>obtain⟨σ7,H7,I7,n7⟩:=q7;exact again I7 n7
  |brk=>obtain⟨σ7,H7,I7,q7⟩:=q7;exact⟨σ7,H7,I7.unpinned,q7⟩
  |ret v=>obtain⟨x7,σ7,H7,I7,r7,q7⟩:=q7;exact⟨x7,σ7,H7,I7.unpinned,r7,q7⟩
end
theorem acC{K:PySem.W.Frag}{a:Addr}{xs:List V}{g:TG}{tb:TS}{D:Ends}{σ:St}{H:Hp}(Pv:Nat->St->Hp->Prop)(h0:Pv 0 σ H)(hl:∀i σ H,i<=xs.length->Pv i σ H->SqL K H a xs)
  (hs:∀i x σ H,xs[i]? =some x->Pv i σ H->g x σ H fun σ2 H2=>tb {D with nx:=Pv (i+1),ct:=Pv (i+1),bk:=D.nx} σ2 H2) (hd:∀σ H,Pv xs.length σ H->D.nx σ H):
  ∃W:Nat->Nat->St->Hp->Prop,(∃m,W 0 m σ H)/\∀i m σ H,W i m σ H->
   ((Itl K a).stop i H/\D.nx σ H)∨((Itl K a).go i H/\∃N:St->Hp->Prop,(∀σ' H',N σ' H'->∃m',m'<m/\W (i+1) m' σ' H')/\∀x H',(Itl K a).yld i H x H'->g x σ H' fun σ2 H2=>tb {D with nx:=N,ct:=N,bk:=D.nx} σ2 H2):=by
 refine⟨fun i m σ H=>m=xs.length-i/\i<=xs.length/\Pv i σ H,⟨xs.length,by simp,Nat.zero_le _,h0⟩,?_⟩
 rintro i m σ H ⟨rfl,hi,p⟩
 have q:=hl i σ H hi p
 by_cases hlt:i<xs.length
 ·refine .inr ⟨⟨xs,xs[i],q,by simp[hlt]⟩,Pv (i+1),fun σ' H' p'=>⟨xs.length-(i+1),by omega,rfl,hlt,p'⟩,fun x H' y=>?_⟩
  obtain⟨e,y⟩:=y
  subst e
  exact hs i x σ _ (y xs q) p
 ·have e:i=xs.length:=by omega
  subst e
  exact .inl ⟨⟨xs,q,Nat.le_refl _⟩,hd σ H p⟩
theorem af2{lo:Int}{n:Nat}{g:TG}{tb:TS}{D:Ends}{σ:St}{H:Hp}(Pv:Nat->St->Hp->Prop)(h0:Pv 0 σ H)
  (hs:∀i σ H,i<n->Pv i σ H->g (.int (lo+i)) σ H fun σ2 H2=>tb {D with nx:=Pv (i+1),ct:=Pv (i+1),bk:=D.nx} σ2 H2) (hd:∀σ H,Pv n σ H->D.nx σ H):
  ∃W:Nat->Nat->St->Hp->Prop,(∃m,W 0 m σ H)/\∀i m σ H,W i m σ H->
   ((Itr lo n).stop i H/\D.nx σ H)∨((Itr lo n).go i H/\∃N:St->Hp->Prop,(∀σ' H',N σ' H'->∃m',m'<m/\W (i+1) m' σ' H')/\∀x H',(Itr lo n).yld i H x H'->g x σ H' fun σ2 H2=>tb {D with nx:=N,ct:=N,bk:=D.nx} σ2 H2):=by
 refine⟨fun i m σ H=>m=n-i/\i<=n/\Pv i σ H,⟨n,by simp,Nat.zero_le _,h0⟩,?_⟩
 rintro i m σ H ⟨rfl,hi,p⟩
 by_cases hlt:i<n
 ·refine .inr ⟨hlt,Pv (i+1),fun σ' H' p'=>⟨n-(i+1),by omega,rfl,hlt,p'⟩,fun x H' y=>?_⟩
  obtain⟨e,y⟩:=y
  subst e y
  exact hs i σ _ hlt p
 ·have e:i=n:=by omega
  subst e
  exact .inl ⟨Nat.le_refl _,hd σ H p⟩
abbrev R2:=V->V->Hp->VK->Prop
def OpR(X:Cx)(f:Value->Value->Sem Value)(r:R2):Prop:=
 ∀(pins:List (Addr×Obj)) (s:Shared) (σ:St) (H:Hp) (x y:V) (v u:Value) (Q:VK),Inv X pins σ H s->RelV x v->RelV y u->r x y H Q->
  wpAny (model X.prog X.w) X.A (f v u) (EP X pins σ Q) X.xe s
def UnR(X:Cx)(f:Value->Sem Value)(r:V->Hp->VK->Prop):Prop:=
 ∀(pins:List (Addr×Obj)) (s:Shared) (σ:St) (H:Hp) (x:V) (v:Value) (Q:VK),Inv X pins σ H s->RelV x v->r x H Q->
  wpAny (model X.prog X.w) X.A (f v) (EP X pins σ Q) X.xe s
def afW(X:Cx)(f:Value)(r:List V->Hp->VK->Prop):Prop:=
 ∀(pins:List (Addr×Obj)) (s:Shared) (σ:St) (H:Hp) (xs:List V) (us:List Value) (Q:VK),Inv X pins σ H s->Vals xs us->r xs H Q->
  wpAny (model X.prog X.w) X.A (call f us) (EP X pins σ Q) X.xe s
def tOp(r:R2)(ta tb:TE):TE:=fun σ H Q=>ta σ H fun x H1=>tb σ H1 fun y H2=>r x y H2 Q
def tUn(r:V->Hp->VK->Prop)(ta:TE):TE:=fun σ H Q=>ta σ H fun x H1=>r x H1 Q
def rI(C:Int->Int->Prop)(g:Int->Int->V):R2:=fun x y H Q=>∃i j,x=.int i/\y=.int j/\C i j/\Q (g i j) H
def rI0(g:Int->Int->V):R2:=fun x y H Q=>∃i j,x=.int i/\y=.int j/\Q (g i j) H
def rU(g:Int->V):V->Hp->VK->Prop:=fun x H Q=>∃i,x=.int i/\Q (g i) H
section
variable{X:Cx}{a b c:Expr}{ta tb tc:TE}{pos:Pos}
theorem apO(ha:PE X a ta)(hb:PE X b tb){pins:List (Addr×Obj)}{s:Shared}{σ:St}{H:Hp}{R:V->V->Hp->Prop}(I:Inv X pins σ H s)
  (h:ta σ H fun x H1=>tb σ H1 fun y H2=>R x y H2) {Q:Value->Shared->Prop} {f:Value->Value->Sem Value}
  (hf:∀v u s2 x y H2,Inv X pins σ H2 s2->RelV x v->RelV y u->R x y H2->wpAny (model X.prog X.w) X.A (f v u) Q X.xe s2):
  wpAny (model X.prog X.w) X.A (eval a X.env) (fun v s₁=>wpAny (model X.prog X.w) X.A (eval b X.env) (fun u s₂=>wpAny (model X.prog X.w) X.A (f v u) Q X.xe s₂) X.xe s₁) X.xe s:=by
 refine thn (ha pins s σ H _ I h) fun v s1 ⟨x,H1,I1,r1,q1⟩=>?_
 refine thn (hb pins s1 σ H1 _ I1 q1) fun u s2 ⟨y,H2,I2,r2,q2⟩=>?_
 exact hf v u s2 x y H2 I2 r1 r2 q2
theorem asB{op:Operator}{r:R2}(ho:OpR X (binaryOp op) r)(ha:PE X a ta)(hb:PE X b tb):PE X (.BinOp a op b pos) (tOp r ta tb):=by
 intro pins s σ H Q I h
 exact wpAny_BinOp (apO ha hb I h fun v u s2 x y H2 I2 rx ry q=>ho pins s2 σ H2 x y v u Q I2 rx ry q)
theorem as0{op:UnaryOp}{r:V->Hp->VK->Prop}(ho:UnR X (unaryOp op) r)(ha:PE X a ta):PE X (.UnaryOp op a pos) (tUn r ta):=by
 intro pins s σ H Q I h
 exact UnaryOp_ (thn (ha pins s σ H _ I h) fun v s1 ⟨x,H1,I1,r1,q1⟩=>ho pins s1 σ H1 x v Q I1 r1 q1)
theorem opI{f:Value->Value->Sem Value}{C:Int->Int->Prop}{g:Int->Int->Int}
  (rule:∀(i j:Int) (t u:Tok) (s:Shared) (Q:Value->Shared->Prop) (E:Value->Shared->Prop),C i j->Q (.int (g i j) s.toks) {s with toks:=s.toks+1}->wpAny (model X.prog X.w) X.A (f (.int i t) (.int j u)) Q E s):
  OpR X f (rI C fun i j=>.int (g i j)):=by
 intro pins s σ H x y v u Q I rx ry h
 obtain⟨i,j,rfl,rfl,hc,q⟩:=h
 obtain⟨t,rfl⟩:=rx
 obtain⟨t',rfl⟩:=ry
 exact rule i j t t' s _ _ hc ⟨.int (g i j),H,I.tok _,⟨_,rfl⟩,q⟩
theorem aoF{f:Value->Value->Sem Value}{g:Int->Int->Int}
  (rule:∀(i j:Int) (t u:Tok) (s:Shared) (Q:Value->Shared->Prop) (E:Value->Shared->Prop),Q (.int (g i j) s.toks) {s with toks:=s.toks+1}->wpAny (model X.prog X.w) X.A (f (.int i t) (.int j u)) Q E s):
  OpR X f (rI0 fun i j=>.int (g i j)):=by
 intro pins s σ H x y v u Q I rx ry h
 obtain⟨i,j,rfl,rfl,q⟩:=h
 obtain⟨t,rfl⟩:=rx
 obtain⟨t',rfl⟩:=ry
 exact rule i j t t' s _ _ ⟨.int (g i j),H,I.tok _,⟨_,rfl⟩,q⟩
theorem apK{f:Value->Value->Sem Value}{g:Int->Int->Bool}
  (rule:∀(i j:Int) (t u:Tok) (s:Shared) (Q:Value->Shared->Prop) (E:Value->Shared->Prop),Q (.bool (g i j)) s->wpAny (model X.prog X.w) X.A (f (.int i t) (.int j u)) Q E s):
  OpR X f (rI0 fun i j=>.bl (g i j)):=by
 intro pins s σ H x y v u Q I rx ry h
 obtain⟨i,j,rfl,rfl,q⟩:=h
 obtain⟨t,rfl⟩:=rx
 obtain⟨t',rfl⟩:=ry
 exact rule i j t t' s _ _ ⟨.bl (g i j),H,I,rfl,q⟩
def as7(i j:Int):Prop:=0<j/\j<1073741824
def aoA(i j:Int):Prop:=0<=j/\j<=1000000/\i.natAbs<2^64
def CMul(i j:Int):Prop:=(-(2^64)<i/\i<2^64)∨(-(2^64)<j/\j<2^64)
theorem CMul.ok{i j:Int}(h:CMul i j):IntMulOk i j:=by
 rcases h with ⟨h1,h2⟩ | ⟨h1,h2⟩
 ·exact .of_left (intBits_le_64 h1 h2)
 ·exact .of_right (intBits_le_64 h1 h2)
theorem aiP(k:Nat):(0:Int)<=2^k:=by
 rw[two_pow_cast]
 exact Int.natCast_nonneg _
theorem apH:OpR X (binaryOp .Add) (rI0 fun i j=>.int (i+j)):=aoF fun _ _ _ _ _ _ _ q=>add_int q
theorem ap3:OpR X (binaryOp .Sub) (rI0 fun i j=>.int (i-j)):=aoF fun _ _ _ _ _ _ _ q=>sub_int q
theorem aqY:OpR X (binaryOp .Mult) (rI CMul fun i j=>.int (i*j)):=opI fun _ _ _ _ _ _ _ hc q=>mul_int q hc.ok
theorem aoB:OpR X (binaryOp .FloorDiv) (rI as7 fun i j=>.int (i / j)):=opI fun i j _ _ _ _ _ hc q=>by
 have h1:(0:Int)<j:=hc.1
 have h2:j<1073741824:=hc.2
 exact floordiv_int (by omega) (by rw[Int.fdiv_eq_ediv_of_nonneg i (by omega)];exact q) (.inl (PyProof.noPylong_small (by omega)))
theorem ao9:OpR X (binaryOp .Mod) (rI (fun _ j=>0<j) fun i j=>.int (i%j)):=opI fun i j _ _ _ _ _ hc q=>by
 have h1:(0:Int)<j:=hc
 exact mod_int' (by omega) (by rw[Int.fmod_eq_emod_of_nonneg i (by omega)];exact q)
theorem aqU:OpR X (binaryOp .Pow) (rI aoA fun i j=>.int (i^j.toNat)):=opI fun _ _ _ _ _ _ _ hc q=>pow_int_small hc.1 hc.2.1 hc.2.2 q
theorem aq0:OpR X (binaryOp .LShift) (rI aoA fun i j=>.int (i*2^j.toNat)):=opI fun _ _ _ _ _ _ _ hc q=>lshift_int_small hc.1 hc.2.1 hc.2.2 q
theorem apI:OpR X (binaryOp .RShift) (rI (fun _ j=>0<=j) fun i j=>.int (i / 2^j.toNat)):=opI fun i j _ _ _ _ _ hc q=>
 rshift_int hc (by rw[Int.fdiv_eq_ediv_of_nonneg i (aiP _)];exact q)
theorem apA:OpR X (binaryOp .BitAnd) (rI0 fun i j=>.int (Builtin.bitAnd i j)):=aoF fun _ _ _ _ _ _ _ q=>and_int q
theorem aq7:OpR X (binaryOp .BitOr) (rI0 fun i j=>.int (Builtin.bitOr i j)):=aoF fun _ _ _ _ _ _ _ q=>or_int q
theorem unI{f:Value->Sem Value}{g:Int->Int}
  (rule:∀(i:Int) (t:Tok) (s:Shared) (Q:Value->Shared->Prop) (E:Value->Shared->Prop),Q (.int (g i) s.toks) {s with toks:=s.toks+1}->wpAny (model X.prog X.w) X.A (f (.int i t)) Q E s):
  UnR X f (rU fun i=>.int (g i)):=by
 intro pins s σ H x v Q I rx h
 obtain⟨i,rfl,q⟩:=h
 obtain⟨t,rfl⟩:=rx
 exact rule i t s _ _ ⟨.int (g i),H,I.tok _,⟨_,rfl⟩,q⟩
theorem apJ:UnR X (unaryOp .USub) (rU fun i=>.int (-i)):=unI fun _ _ _ _ _ q=>neg_int q
theorem apX:UnR X (unaryOp .Invert) (rU fun i=>.int (Builtin.bitNot i)):=unI fun _ _ _ _ _ q=>invert_int q
end
def arS:V->V->Bool
 |.non,.non=>true | .non,.int _=>true | .int _,.non=>true | .non,.bl _=>true | .bl _,.non=>true | .non,.str _=>true | .str _,.non=>true
 |.int _,.int _=>true | .bl _,.bl _=>true | .str _,.str _=>true | .byt _,.byt _=>true
 |.int _,.str _=>true | .str _,.int _=>true | .bl _,.str _=>true | .str _,.bl _=>true
 |_,_=>false
def rEq:R2:=fun x y H Q=>arS x y=true/\Q (.bl (decide (x=y))) H
def rNe:R2:=fun x y H Q=>arS x y=true/\Q (.bl (!decide (x=y))) H
theorem ajP{i j:Int}:decide (V.int i=V.int j)=(i==j):=by
 rw[Bool.eq_iff_iff]
 simp
theorem am1{i j:Bool}:decide (V.bl i=V.bl j)=(i==j):=by
 rw[Bool.eq_iff_iff]
 simp
theorem ajQ{i j:Str}:decide (V.str i=V.str j)=(i==j):=by
 rw[Bool.eq_iff_iff]
 simp
theorem ajI{i j:Array UInt8}:decide (V.byt i=V.byt j)=(i.toList==j.toList):=by
 rw[Bool.eq_iff_iff]
 cases i
 cases j
 simp
section
variable{X:Cx}{a b c:Expr}{ta tb tc:TE}{pos:Pos}
theorem aaG{pins:List (Addr×Obj)}{σ:St}{H:Hp}{s:Shared}{Q:VK}{k k':Bool}(I:Inv X pins σ H s)(q:Q (.bl k) H)(e:k=k'):EP X pins σ Q (.bool k') s:=by
 subst e
 exact⟨.bl k,H,I,rfl,q⟩
theorem arI:OpR X (compareOp .Eq) rEq:=by
 intro pins s σ H x y v u Q I rx ry h
 obtain⟨hs,q⟩:=h
 cases x with
 |non=>
  cases rx
  cases y with
  |non=>cases ry;exact PySem.EqNone.eq_none_none (aaG I q (by simp))
  |bl j=>cases ry;exact PySem.EqNone.eq_none_bool (aaG I q (by simp))
  |int j=>obtain⟨t',rfl⟩:=ry;exact PySem.EqNone.eq_none_int (aaG I q (by simp))
  |str j=>obtain⟨t',rfl⟩:=ry;exact PySem.EqNone.eq_none_str (aaG I q (by simp))
  |_=>exact absurd (show false=true from hs) Bool.false_ne_true
 |bl i=>
  cases rx
  cases y with
  |non=>cases ry;exact PySem.EqNone.eq_bool_none (aaG I q (by simp))
  |bl j=>cases ry;exact eq_bool (aaG I q am1)
  |str j=>obtain⟨t',rfl⟩:=ry;exact PySem.EqMixed.eq_bool_str (aaG I q (by simp))
  |_=>exact absurd (show false=true from hs) Bool.false_ne_true
 |int i=>
  obtain⟨t,rfl⟩:=rx
  cases y with
  |non=>cases ry;exact PySem.EqNone.eq_int_none (aaG I q (by simp))
  |int j=>obtain⟨t',rfl⟩:=ry;exact eq_int (aaG I q ajP)
  |str j=>obtain⟨t',rfl⟩:=ry;exact PySem.EqMixed.eq_int_str (aaG I q (by simp))
  |_=>exact absurd (show false=true from hs) Bool.false_ne_true
 |str i=>
  obtain⟨t,rfl⟩:=rx
  cases y with
  |non=>cases ry;exact PySem.EqNone.eq_str_none (aaG I q (by simp))
  |bl j=>cases ry;exact PySem.EqMixed.eq_str_bool (aaG I q (by simp))
  |int j=>obtain⟨t',rfl⟩:=ry;exact PySem.EqMixed.eq_str_int (aaG I q (by simp))
  |str j=>obtain⟨t',rfl⟩:=ry;exact eq_str (aaG I q ajQ)
  |_=>exact absurd (show false=true from hs) Bool.false_ne_true
 |byt i=>
  obtain⟨t,rfl⟩:=rx
  cases y with
  |byt j=>obtain⟨t',rfl⟩:=ry;exact PySem.W.eq_bytes (aaG I q ajI)
  |_=>exact absurd (show false=true from hs) Bool.false_ne_true
 |_=>cases y<;>exact absurd (show false=true from hs) Bool.false_ne_true
theorem arM:OpR X (compareOp .NotEq) rNe:=by
 intro pins s σ H x y v u Q I rx ry h
 obtain⟨hs,q⟩:=h
 cases x with
 |non=>
  cases rx
  cases y with
  |non=>cases ry;exact PySem.EqNone.ne_none_none (aaG I q (by simp))
  |bl j=>cases ry;exact PySem.EqNone.ne_none_bool (aaG I q (by simp))
  |int j=>obtain⟨t',rfl⟩:=ry;exact PySem.EqNone.ne_none_int (aaG I q (by simp))
  |str j=>obtain⟨t',rfl⟩:=ry;exact PySem.EqNone.ne_none_str (aaG I q (by simp))
  |_=>exact absurd (show false=true from hs) Bool.false_ne_true
 |bl i=>
  cases rx
  cases y with
  |non=>cases ry;exact PySem.EqNone.ne_bool_none (aaG I q (by simp))
  |bl j=>cases ry;exact ne_bool (aaG I q (congrArg not am1))
  |str j=>obtain⟨t',rfl⟩:=ry;exact PySem.EqMixed.ne_bool_str (aaG I q (by simp))
  |_=>exact absurd (show false=true from hs) Bool.false_ne_true
 |int i=>
  obtain⟨t,rfl⟩:=rx
  cases y with
  |non=>cases ry;exact PySem.EqNone.ne_int_none (aaG I q (by simp))
  |int j=>obtain⟨t',rfl⟩:=ry;exact ne_int (aaG I q (congrArg not ajP))
  |str j=>obtain⟨t',rfl⟩:=ry;exact PySem.EqMixed.ne_int_str (aaG I q (by simp))
  |_=>exact absurd (show false=true from hs) Bool.false_ne_true
 |str i=>
  obtain⟨t,rfl⟩:=rx
  cases y with
  |non=>cases ry;exact PySem.EqNone.ne_str_none (aaG I q (by simp))
  |bl j=>cases ry;exact PySem.EqMixed.ne_str_bool (aaG I q (by simp))
  |int j=>obtain⟨t',rfl⟩:=ry;exact PySem.EqMixed.ne_str_int (aaG I q (by simp))
  |str j=>obtain⟨t',rfl⟩:=ry;exact ne_str (aaG I q (congrArg not ajQ))
  |_=>exact absurd (show false=true from hs) Bool.false_ne_true
 |byt i=>
  obtain⟨t,rfl⟩:=rx
  cases y with
  |byt j=>obtain⟨t',rfl⟩:=ry;exact PySem.W.ne_bytes (aaG I q (congrArg not ajI))
  |_=>exact absurd (show false=true from hs) Bool.false_ne_true
 |_=>cases y<;>exact absurd (show false=true from hs) Bool.false_ne_true
theorem as5:OpR X (compareOp .Lt) (rI0 fun i j=>.bl (decide (i<j))):=apK fun _ _ _ _ _ _ _ q=>lt_int q
theorem asZ:OpR X (compareOp .LtE) (rI0 fun i j=>.bl (decide (i<=j))):=apK fun _ _ _ _ _ _ _ q=>le_int q
theorem arJ:OpR X (compareOp .Gt) (rI0 fun i j=>.bl (decide (j<i))):=apK fun _ _ _ _ _ _ _ q=>gt_int q
theorem amS(b:Expr){op:CmpOp}(h:op≠ .In:=by decide)(h2:op≠ .NotIn:=by decide):behindInMarks op b=false:=by
 have e1:(op==CmpOp.In)=false:=by cases op<;>first | rfl | exact absurd rfl h
 have e2:(op==CmpOp.NotIn)=false:=by cases op<;>first | rfl | exact absurd rfl h2
 cases b<;>simp[behindInMarks,e1,e2]
theorem anA{op:CmpOp}{r:R2}(ho:OpR X (compareOp op) r)(ha:PE X a ta)(hb:PE X b tb)(hm:behindInMarks op b=false):PE X (.Compare a [op] [b] pos) (tOp r ta tb):=by
 intro pins s σ H Q I h
 exact wpAny_Compare1 (apO ha hb I h fun v u s2 x y H2 I2 rx ry q=>ho pins s2 σ H2 x y v u Q I2 rx ry q) hm
def aoN(t:TE):TT:=fun σ H Q=>t σ H fun x H'=>∃k,x=.bl k/\Q k H'
theorem an6{op:CmpOp}{r:R2}(ho:OpR X (compareOp op) r)(ha:PE X a ta)(hb:PE X b tb)(hm:behindInMarks op b=false):PT X (.Compare a [op] [b] pos) (aoN (tOp r ta tb)):=by
 intro pins s σ H Q I h
 refine wpAny_isTrue_Compare1 (thn (ha pins s σ H _ I h) fun v s1 ⟨x,H1,I1,r1,q1⟩=>thn (hb pins s1 σ H1 _ I1 q1) fun u s2 ⟨y,H2,I2,r2,q2⟩=>
  thn (ho pins s2 σ H2 x y v u _ I2 r1 r2 q2) fun c s3 ⟨z,H3,I3,r3,k,e,q3⟩=>?_) hm
 subst e
 cases r3
 exact wpAny_truthy_bool ⟨H3,I3,q3⟩
theorem agR:(sizeLine:Nat)<2^63:=by rw[sizeLine_eq];decide
theorem adQ{x:V}{us:List Value}(r:Vals [x] us):∃u,us=[u]/\RelV x u:=by
 cases r with
 |cons r1 r2=>cases r2;exact⟨_,rfl,r1⟩
theorem asE{x y:V}{us:List Value}(r:Vals [x,y] us):∃u w',us=[u,w']/\RelV x u/\RelV y w':=by
 cases r with
 |cons r1 r2=>
  cases r2 with
  |cons r3 r4=>cases r4;exact⟨_,_,rfl,r1,r3⟩
theorem amW:afW X (.builtin "abs") (fun xs H Q=>∃i,xs=[.int i]/\Q (.int (if i<0 then -i else i)) H):=by
 intro pins s σ H xs us Q I r h
 obtain⟨i,rfl,q⟩:=h
 obtain⟨u,rfl,t,rfl⟩:=adQ r
 exact call_abs_int fun u tk=>⟨.int (if i<0 then -i else i),H,I.tok _,⟨_,rfl⟩,q⟩
end
section
variable{prog:Program}{w:World}{A:Around}{E:Value->Shared->Prop}{s:Shared}{K:PySem.W.Frag}{x dx C f:Addr}{mA:Str->Option Value}{name:Str}{v:Value}
end
def apF(f:Str)(v:V):List (Str×V)->List (Str×V)
 |[]=>[(f,v)]
 |(g,x)::r=>if g=f then (g,v)::r else (g,x)::apF f v r
section
variable{P:Program}{w:World}{H H':Hp}{h h':Heap}{a C dx:Addr}{fs fs':List (Str×V)}
end
section
variable{X:Cx}{pins:List (Addr×Obj)}{σ:St}{H:Hp}{s:Shared}{a C dx:Addr}{fs:List (Str×V)}{f:Str}{v:V}{A:Around}{E:Value->Shared->Prop}
end
section
variable{X:Cx}{o e value:Expr}{f:Str}{pos pos' tpos:Pos}{ta tv:TE}
end
section
variable{X:Cx}{pins:List (Addr×Obj)}{σ:St}{H:Hp}{s:Shared}{A:Around}{E:Value->Shared->Prop}{Q:Value->Shared->Prop}{c:Value}{b:Bool}
end
structure Room(k:Nat)(A:Around):Prop where
 hd:A.handled=none
 dp:A.depth+3*k+5<recursionLimit
 un:A.units+16*k+200<cLine
theorem Room.mono{j k:Nat}{A:Around}(r:Room k A)(h:j<=k):Room j A:=⟨r.hd,by have:=r.dp;omega,by have:=r.un;omega⟩
theorem Room.deeper{k:Nat}{A:Around}(r:Room (k+1) A)(env:Env):Room k (A.deeper env):=
 ⟨r.hd,by have:=r.dp;show A.depth+1+3*k+5<_;omega,by have:=r.un;show A.units+3+16*k+200<_;omega⟩
theorem Room.depth{k:Nat}{A:Around}(r:Room k A):A.depth<recursionLimit:=by have:=r.dp;omega
theorem Room.units{k:Nat}{A:Around}(r:Room k A):A.units+64<cLine:=by have:=r.un;omega
def aj3:TA:=fun _ H Q=>Q [] H
def afY(ta:TE)(tr:TA):TA:=fun σ H Q=>ta σ H fun x H1=>tr σ H1 fun xs H2=>Q (x::xs) H2
section
variable{X:Cx}{e:Expr}{es:List Expr}{te:TE}{t:TA}{pos:Pos}
theorem adM:PA X [] aj3:=fun _ _ _ _ H Q I h=>Calls.spliced_nil ⟨[],H,I,.nil,h⟩
theorem acG(ha:PE X e te)(hr:PA X es t)(hs:starEach (e::es) X.env=(false,eval e X.env)::starEach es X.env:=by rfl):PA X (e::es) (afY te t):=by
 intro pos pins s σ H Q I h
 rw[hs]
 show wpAny _ _ (spliced ((false,eval e X.env)::backTo pos (starEach es X.env))) _ _ s
 refine Calls.spliced_cons (thn (ha pins s σ H _ I h) fun u s1 ⟨x,H1,I1,r1,q1⟩=>?_)
 exact thn (hr pos pins s1 σ H1 _ I1 q1) fun us s2 ⟨xs,H2,I2,r2,q2⟩=>⟨x::xs,H2,I2,.cons r1 r2,q2⟩
def asU(t:TA):TE:=fun σ H Q=>t σ H fun xs H1=>xs.length<=sizeLine/\∀p,H1 p=none->Q (.ref p) (upd H1 p (.tup xs))
def ar7(t:TA):TE:=fun σ H Q=>t σ H fun xs H1=>xs.length<=sizeLine/\∀p,H1 p=none->Q (.ref p) (upd H1 p (.lst xs))
theorem ap9{x1}(h:PA X es t):PE X (.Tuple es x1 pos) (asU t):=by
 intro pins s σ H Q I hq
 refine wpAny_Tuple_spliced (thn (h pos pins s σ H _ I hq) fun us s1 ⟨xs,H1,I1,r,z,q⟩=>⟨by rw[←r.length];exact z,?_⟩)
 have hf:H1 s1.heap.objs.size=none:=I1.hok.fresh (Nat.le_refl _)
 refine⟨.ref s1.heap.objs.size,upd H1 s1.heap.objs.size (.tup xs),I1.laid (t':=s1.toks) (fun b u e=>Heap.get?_push_of_some _ e) (Nat.le_refl _) ?_,rfl,q _ hf⟩
 exact⟨z,us,r,⟨_,Heap.get?_push_size _ rfl,rfl,_,rfl⟩⟩
theorem aqX(h:PA X es t):PE X (.List es pos) (ar7 t):=by
 intro pins s σ H Q I hq
 refine wpAny_List_spliced (thn (h pos pins s σ H _ I hq) fun us s1 ⟨xs,H1,I1,r,z,q⟩=>⟨by rw[←r.length];exact z,?_⟩)
 have hf:H1 s1.heap.objs.size=none:=I1.hok.fresh (Nat.le_refl _)
 refine⟨.ref s1.heap.objs.size,upd H1 s1.heap.objs.size (.lst xs),I1.laid (t':=s1.toks) (fun b u e=>Heap.get?_push_of_some _ e) (Nat.le_refl _) ?_,rfl,q _ hf⟩
 exact⟨z,us,0,r,Heap.get?_push_size _ rfl⟩
end
abbrev Sp:=List V->Hp->VK->XK->Prop
abbrev CXT:=List Env->Hp->Shared->XK->Value->Shared->Prop
structure Env0(P:Program)(w:World)(K:PySem.W.Frag)(mg:Str->Option Value)(base:Heap)(A:Around)(outer:List Env)(s:Shared)(H:Hp):Prop where
 frames:A.frames=some outer
 mod:Mod K mg base
 bs:∀b o,base.get? b=some o->s.heap.get? b=some o/\H b=none
 bsz:base.objs.size<=s.heap.objs.size
 funs:s.heap.FunFrames base outer
 frf:∀b∈frs outer,H b=none
 hok:HOk P w H s.heap
 bare:AllBare s.gens
def CE(outer:List Env)(P:Program)(w:World)(H:Hp)(s:Shared)(Q:VK)(u:Value)(s':Shared):Prop:=
 ∃v H',s'.os=s.os/\AllBare s'.gens/\Un (frs outer) [] H H' s.heap s'.heap/\HOk P w H' s'.heap/\RelV v u/\Q v H'
def CR(CX:CXT)(outer:List Env)(P:Program)(w:World)(H:Hp)(s:Shared)(Q:VK)(E:XK)(r:Result)(s':Shared):Prop:=
 match r with
 |.ok (.ret u)=>CE outer P w H s Q u s'
 |.ok _=>False
 |.error e=>CX outer H s E e s'
structure FnOk(P:Program)(w:World)(K:PySem.W.Frag)(mg:Str->Option Value)(base:Heap)(CX:CXT)(k:Nat)(f:Addr)(fd:FuncData)(ps:List Str)(sp:Sp):Prop where
 len:∀vs H Q E,sp vs H Q E->vs.length=ps.length
 run:∀(A:Around) (outer:List Env) (s:Shared) (H:Hp) (args:Args) (us:List Value) (vs:List V) (Q:VK) (E:XK),Room k A->Env0 P w K mg base A outer s H->BindsTo s fd args (ps.zip us)->Vals vs us->sp vs H Q E->
  codeAny (model P w) A (.call (.ref f) args) (CR CX outer P w H s Q E) s
section
variable{X:Cx}{pins:List (Addr×Obj)}{σ:St}{H:Hp}{s s':Shared}
theorem Inv.env0(I:Inv X pins σ H s):Env0 X.prog X.w X.K X.mg X.base X.A X.stack s H:=
 ⟨I.ok.frames,I.ok.mod,I.bs,Nat.le_trans I.ok.bsz I.sz,I.stack,I.stkFree,I.hok,I.bare⟩
theorem Inv.after{Q:VK}{u:Value}(I:Inv X pins σ H s)(h:CE X.stack X.prog X.w H s Q u s'):EP X pins σ Q u s':=by
 obtain⟨v,H',os,bare,un,hok,r,q⟩:=h
 obtain⟨hh,g,d,t,os'⟩:=s'
 obtain rfl:os'=s.os:=os
 exact⟨v,H',I.call (h':=hh) (g':=g) (d':=d) (t':=t) (ch:=[]) un hok bare (fun b z=>absurd z (by simp)),r,q⟩
end
def ai0(sp:Sp)(dvs:List V)(E:XK)(t:TA):TE:=fun σ H Q=>t σ H fun vs H1=>sp (vs++dvs) H1 Q E
def Binds(K:PySem.W.Frag)(fd:FuncData)(ps:List Str)(ds:List Value):Prop:=
 ∀(s:Shared) (us:List Value),K.In s.heap->(us++ds).length=ps.length->BindsTo s fd ⟨us,[]⟩ (ps.zip (us++ds))
theorem Binds.all{K:PySem.W.Frag}{fd:FuncData}{ps:List Str}(h:∀us:List Value,us.length=ps.length->bindArgs fd ⟨us,[]⟩=pure (ps.zip us)):Binds K fd ps []:=fun s us _ hl=>by
 rw[List.append_nil] at hl ⊢
 exact .of_eq (h us hl)
def aiO(CX:CXT)(X:Cx)(E:XK):Prop:=∀(pins:List (Addr×Obj)) (σ:St) (H:Hp) (s:Shared) (e:Value) (s':Shared),Inv X pins σ H s->CX X.stack H s E e s'->X.xe e s'
section
variable{X:Cx}{CX:CXT}{k:Nat}{f C:Addr}{fd:FuncData}{ps:List Str}{sp:Sp}{dvs:List V}{ds:List Value}{E:XK}{x m:Str}{p pos apos:Pos}{e o:Expr}{es:List Expr}{ta:TE}{t:TA}
theorem aqN{pins:List (Addr×Obj)}{σ:St}{H:Hp}{s:Shared}{Q:VK}{us:List Value}{vs:List V}(F:FnOk X.prog X.w X.K X.mg X.base CX k f fd ps sp)(hr:Room k X.A)(hb:Binds X.K fd ps ds)(hd:Vals dvs ds)(hx:aiO CX X E)
  (I:Inv X pins σ H s) (r:Vals vs us) (h:sp (vs++dvs) H Q E):wpAny (model X.prog X.w) X.A (call (.ref f) us) (EP X pins σ Q) X.xe s:=by
 have r2:Vals (vs++dvs) (us++ds):=r.append hd
 have hl:(us++ds).length=ps.length:=by rw[←r2.length];exact F.len _ _ _ _ h
 refine wpAny_call (codeAny_mono (F.run X.A X.stack s H ⟨us,[]⟩ (us++ds) (vs++dvs) Q E hr I.env0 (hb s us I.kIn hl) r2 h) fun r s' hq=>?_)
 cases r with
 |error e=>exact hx pins σ H s e s' I hq
 |ok fl=>
  cases fl with
  |ret u=>exact I.after hq
  |next=>exact False.elim hq
  |brk=>exact False.elim hq
  |cont=>exact False.elim hq
theorem anP(F:FnOk X.prog X.w X.K X.mg X.base CX k f fd ps sp)(hr:Room k X.A)(hg:Gl X x)(hm:X.mg x=some (.ref f))(hk:PySem.W.keepIn X.K (.ref f)=true)(hb:Binds X.K fd ps ds)(hd:Vals dvs ds)(hx:aiO CX X E)
  (ha:PA X (e::es) t) (hdb:(x==("__debug__":Str))=false:=by decide) (he:starEach (e::es) X.env=(false,eval e X.env)::starEach es X.env:=by rfl) (hpl:(backTo pos (starEach es X.env)).any (·.1)=false:=by rfl):
  PE X (.Call (.Name x p) (e::es) [] pos) (ai0 sp dvs E t):=by
 intro pins s σ H Q I h
 refine wpAny_Call_Name_kw (ajL I hg hm ?_ hdb)
 refine PySem.W.callWith_K (h₀:=X.base) I.ok.mod.kin hk (thn (ha pos pins s σ H _ I h) fun us s1 ⟨vs,H1,I1,r,q⟩=>⟨I1.kIn,?_⟩) he hpl
 exact aqN F hr hb hd hx I1 r q
structure Mk(K:PySem.W.Frag)(C f:Addr):Prop where
 makes:PySem.W.makesIn K C=true
 init:PySem.W.findIn K (.ref C) "__init__"=some (some (.ref f))
 fn:PySem.W.isFn K (.ref f)=true
 kp:PySem.W.keepIn K (.ref C)=true
end
section
variable{X:Cx}{CX:CXT}{k:Nat}{f C:Addr}{fd:FuncData}{ps ks:List Str}{sp:Sp}{E:XK}{x m:Str}{p pos apos kpos:Pos}{e o:Expr}{es:List Expr}{kws:List Keyword}{te ta:TE}{t tk:TA}{nm:Option Str}
variable{g:List Value->List Value->List Value}{gV:List V->List V->List V}
end
structure FnScope(N P:List Str)(sc:Scope):Prop where
 kind:sc.kind=.function
 co:sc.isCoroutine=false
 gen:sc.isGenerator=false
 nd:N.Nodup
 pre:N.take P.length=P
 par:∀x∈P,sc.names.lookup x=some .local∨sc.names.lookup x=some .cell
 nofree:∀y∈sc.names,y.2≠ .free
theorem afX{kindOf:Str->Option NameKind}{x:Str}:∀{binds:List (Str×Value)} {m:Str->Option Value},(∀v,(x,v)∉binds)->bindL kindOf binds m x=m x
 |[],_,_=>rfl
 |(n,v)::r,m,h=>by
  unfold bindL
  rw[afX fun w hw=>h w (List.mem_cons_of_mem _ hw)]
  split
  ·have:x≠n:=by rintro rfl;exact h v List.mem_cons_self
   simp[this]
  ·rfl
theorem afU{kindOf:Str->Option NameKind}{x:Str}:∀{binds:List (Str×Value)} {m:Str->Option Value},(∀v,(x,v)∉binds)->bindC kindOf binds m x=m x
 |[],_,_=>rfl
 |(n,v)::r,m,h=>by
  unfold bindC
  rw[afU fun w hw=>h w (List.mem_cons_of_mem _ hw)]
  split
  ·rfl
  ·have:x≠n:=by rintro rfl;exact h v List.mem_cons_self
   simp[this]
theorem af5{kindOf:Str->Option NameKind}{x:Str}{v:Value}:∀{P:List Str} {vs:List Value} {i:Nat} {m:Str->Option Value},P.Nodup->P[i]? =some x->vs[i]? =some v->kindOf x=some .local->
  bindL kindOf (P.zip vs) m x=some v
 |[],_,_,_,_,h,_,_=>by simp at h
 |_::_,[],_,_,_,_,h,_=>by simp at h
 |p::P,w::vs,0,m,nd,h1,h2,hk=>by
  simp at h1 h2;subst h1;subst h2
  show bindL kindOf ((p,w)::P.zip vs) m p=_
  unfold bindL
  rw[afX fun v hv=>(List.nodup_cons.mp nd).1 (List.of_mem_zip hv).1,if_pos hk]
  simp
 |p::P,w::vs,i+1,m,nd,h1,h2,hk=>by
  show bindL kindOf ((p,w)::P.zip vs) m x=_
  unfold bindL
  exact af5 (i:=i) (List.nodup_cons.mp nd).2 (by simpa using h1) (by simpa using h2) hk
theorem afS{kindOf:Str->Option NameKind}{x:Str}{v:Value}:∀{P:List Str} {vs:List Value} {i:Nat} {m:Str->Option Value},P.Nodup->P[i]? =some x->vs[i]? =some v->kindOf x≠some .local->
  bindC kindOf (P.zip vs) m x=some v
 |[],_,_,_,_,h,_,_=>by simp at h
 |_::_,[],_,_,_,_,h,_=>by simp at h
 |p::P,w::vs,0,m,nd,h1,h2,hk=>by
  simp at h1 h2;subst h1;subst h2
  show bindC kindOf ((p,w)::P.zip vs) m p=_
  unfold bindC
  rw[afU fun v hv=>(List.nodup_cons.mp nd).1 (List.of_mem_zip hv).1,if_neg hk]
  simp
 |p::P,w::vs,i+1,m,nd,h1,h2,hk=>by
  show bindC kindOf ((p,w)::P.zip vs) m x=_
  unfold bindC
  exact afS (i:=i) (List.nodup_cons.mp nd).2 (by simpa using h1) (by simpa using h2) hk
def ab2(N:List Str)(vs:List V):St:=vs.map some++List.replicate (N.length-vs.length) none
def ag1(CX:CXT)(P:Program)(w:World)(K:PySem.W.Frag)(mg:Str->Option Value)(base:Heap)(N:List Str)(qual:Str)(scope:Scope)(f:Addr)(cd:Value)(A:Around)(outer:List Env)(s:Shared)(H:Hp)(E:XK):Cx where
 prog:=P
 w:=w
 K:=K
 mg:=mg
 base:=base
 A:=A.deeper (envOfC qual scope s.heap.objs.size f cd)
 N:=N
 s₀:=s
 H₀:=H
 env:=envOfC qual scope s.heap.objs.size f cd
 outer:=outer
 stack:=envOfC qual scope s.heap.objs.size f cd::outer
 ex:=[]
 calm:=true
 fn:=fun _=>true
 pn:=[]
 xe:=fun e s'=>wpAny (model P w) (A.deeper (envOfC qual scope s.heap.objs.size f cd)) (leaving (envOfC qual scope s.heap.objs.size f cd) e) (fun _ s''=>CX outer H s E e s'') (fun e' s''=>CX outer H s E e' s'') s'
theorem aeL{sc:Scope}{n:Nat}{x:Str}(h:sc.names.lookup x=some .cell):∃c,(cellsFrom n sc.names []).lookup x=some c:=by
 have q:=PySem.W.cellsFrom_some sc.names n [] (.inl h)
 exact Option.isSome_iff_exists.mp q
theorem akH{CX:CXT}{P:Program}{w:World}{K:PySem.W.Frag}{mg:Str->Option Value}{base:Heap}{N ps:List Str}{qual:Str}{scope:Scope}{f:Addr}{cd:Value}{A:Around}{outer:List Env}{s s1:Shared}{H:Hp}{E:XK}{us:List Value}{vs:List V}
  (S:FnScope N ps scope) (hd:A.handled=none) (e0:Env0 P w K mg base A outer s H) (hl:vs.length=ps.length) (r:Vals vs us)
  (x:InCallC s s.heap.objs.size (bindL (envOfC qual scope s.heap.objs.size f cd).kindOf (ps.zip us) fun _=>none) (cellsFrom (s.heap.objs.size+1) scope.names []) (bindC (envOfC qual scope s.heap.objs.size f cd).kindOf (ps.zip us) fun _=>none) s1):
  Inv (ag1 CX P w K mg base N qual scope f cd A outer s H E) [] (ab2 N vs) H s1:=by
 have hpl:ps.length<=N.length:=by have:=congrArg List.length S.pre;rw[List.length_take] at this;omega
 obtain⟨h1,tk,rfl,hk⟩:=x.done
 have noA:∀b:Addr,b∉(ag1 CX P w K mg base N qual scope f cd A outer s H E).ex:=fun b z=>absurd (show b∈([]:List Addr) from z) (by simp)
 refine⟨⟨e0.mod,S.kind,rfl,rfl,Nat.le_refl _,fun y z c h1 h2=>?_,fun y hy=>?_,fun y c _ h=>?_,fun _=>hd,Around.frames_deeper e0.frames,.inr ⟨rfl,rfl⟩,fun b z=>absurd z (noA b),e0.bs,e0.bsz,fun b _ _=>noA b,fun b z=>absurd z (noA b),e0.funs,e0.frf⟩,
  rfl,e0.bare,Un.kept hk,⟨_,x.toInCall.ns,fun i y v h1 h2 h3=>?_⟩,fun y c h=>⟨_,x.cell y c h⟩,e0.hok.fresh (Nat.le_refl _),fun y c h=>?_,fun p hp=>absurd (show p∈([]:List (Addr×Obj)) from hp) (by simp),e0.hok.kept hk,?_⟩
 ·exact name_of_addr x.apart (PySem.mem_of_lookup h1) (PySem.mem_of_lookup h2)
 ·have hy:scope.names.lookup y=some .cell∨scope.names.lookup y=some .free:=hy
  rcases hy with hy | hy
  ·exact aeL hy
  ·exact absurd rfl (S.nofree _ (PySem.mem_of_lookup hy))
 ·exact Nat.le_of_lt (x.above y c (PySem.mem_of_lookup h))
 ·have hi:i<vs.length:=by
   unfold ab2 at h2
   by_cases hi:i<vs.length
   ·exact hi
   ·rw[List.getElem?_append_right (by simpa using hi)] at h2
    rw[List.getElem?_replicate] at h2
    split at h2<;>cases h2
  have ha:vs[i]? =some v:=by
   unfold ab2 at h2
   rw[List.getElem?_append_left (by simpa using hi),List.getElem?_map] at h2
   cases e:vs[i]? with
   |none=>rw[e] at h2;cases h2
   |some a=>rw[e] at h2;cases h2;rfl
  obtain⟨u,hu,rv⟩:=r.get ha
  have hp:ps[i]? =some y:=by
   rw[←S.pre,List.getElem?_take_of_lt (by omega)];exact h1
  have ndP:ps.Nodup:=by rw[←S.pre];exact S.nd.sublist (List.take_sublist _ _)
  refine⟨u,rv,?_⟩
  rcases S.par y (List.mem_of_getElem? hp) with k | k
  ·exact .inl ⟨k,af5 ndP hp hu k⟩
  ·obtain⟨c,e⟩:=aeL (n:=s.heap.objs.size+1) k
   refine .inr ⟨.inl k,c,e,?_⟩
   have q:=x.cell y c e
   rw[afS ndP hp hu (by show scope.names.lookup y≠_;rw[k];decide)] at q
   exact q
 ·exact e0.hok.fresh (Nat.le_of_lt (x.above y c (PySem.mem_of_lookup h)))
 ·unfold ab2
  show _=N.length
  rw[List.length_append,List.length_map,List.length_replicate]
  omega
theorem as4{CX:CXT}{P:Program}{w:World}{K:PySem.W.Frag}{mg:Str->Option Value}{base:Heap}{k:Nat}{f:Addr}{name qual:Str}{params:Arguments}{body:List Stmt}{scope:Scope}{dV kV doc pm cdv ct oc:Value}{an od:Option Addr}
  {osl:Array (Option Value)} {N ps:List Str} {sp:Sp} (lk:K.lookup f=some ⟨oc,od,.func (PySem.W.fnOf name qual params body scope dV kV doc pm an cdv ct),osl⟩) (hcd:PySem.W.codeIn K cdv qual=true) (S:FnScope N ps scope)
  (len:∀vs H Q E,sp vs H Q E->vs.length=ps.length)
  (hbody:∀(A:Around) (outer:List Env) (s:Shared) (H:Hp) (vs:List V) (Q:VK) (E:XK),Room k (A.deeper (envOfC qual scope s.heap.objs.size f cdv))->sp vs H Q E->
   ∃t,PSs (ag1 CX P w K mg base N qual scope f cdv A outer s H E) body t/\t {nx:=fun _ H'=>Q .non H',rt:=Q} (ab2 N vs) H):
  FnOk P w K mg base CX (k+1) f (PySem.W.fnOf name qual params body scope dV kV doc pm an cdv ct) ps sp:=by
 refine⟨len,fun A outer s H args us vs Q E hr e0 hb r hsp=>?_⟩
 have hl:=len _ _ _ _ hsp
 have KX:K.In s.heap:=e0.mod.kin.keeps fun b o e=>(e0.bs b o e).1
 have lim:s.heap.NoLimit:=e0.mod.nolimit.keeps fun b o e=>(e0.bs b o e).1
 have hkind:∀y∈ps.zip us,scope.names.lookup y.1=some .local∨(scope.names.lookup y.1=some .cell/\((cellsFrom (s.heap.objs.size+1) scope.names []).lookup y.1).isSome=true):=fun ⟨n,v⟩ hy=>by
  rcases S.par n (List.of_mem_zip hy).1 with q | q
  ·exact .inl q
  ·exact .inr ⟨q,PySem.W.cellsFrom_some _ _ _ (.inl q)⟩
 refine codeAny_call_function hr.depth (KX _ _ lk) rfl S.co S.gen rfl (PySem.W.codeRec_of KX hcd) (hb _ _ _ _ ?_)
 refine wpAny_newFunctionEnv_cells S.kind hkind fun env he s1 x=>?_
 subst he
 refine⟨lim.keeps x.toInCall.keep,codeAny_func ?_⟩
 obtain⟨t,ht,hq⟩:=hbody A outer s H vs Q E (hr.deeper _) hsp
 have I:Inv (ag1 CX P w K mg base N qual scope f cdv A outer s H E) [] (ab2 N vs) H s1:=akH S hr.hd e0 hl r x
 refine wpAny_mono (ht [] s1 (ab2 N vs) H _ I hq) (fun fl s' hs=>?_) fun e s' hs=>hs
 have fin:∀{σ':St} {H':Hp} {v:V} {u:Value},Inv (ag1 CX P w K mg base N qual scope f cdv A outer s H E) [] σ' H' s'->RelV v u->Q v H'->CE outer P w H s Q u s':=
  fun {σ' H' v u} J rv q=>⟨v,H',J.os,J.bare,J.base,J.hok,rv,q⟩
 cases fl with
 |ret u=>
  obtain⟨v,σ',H',J,rv,q⟩:=hs
  exact fin J rv q
 |next=>
  obtain⟨σ',H',J,q⟩:=hs
  exact fin (v:=V.non) (u:=Value.none) J rfl q
 |brk=>
  obtain⟨_,_,_,q⟩:=hs
  exact False.elim q
 |cont=>
  obtain⟨_,_,_,q⟩:=hs
  exact False.elim q
section
variable{X:Cx}{x:Str}{p pos:Pos}{e:Expr}{es:List Expr}{t:TA}{id T:String}{r:List V->Hp->VK->Prop}
def tCB(r:List V->Hp->VK->Prop)(t:TA):TE:=fun σ H Q=>t σ H fun vs H1=>r vs H1 Q
theorem al8(hc:afW X (.builtin id) r)(hg:Gl X x)(hm:X.mg x=none)(hv:bootBuiltins x=some (.builtin id))(ha:PA X (e::es) t)(hn:x≠"__name__":=by decide)(hdb:(x==("__debug__":Str))=false:=by decide)
  (he:starEach (e::es) X.env=(false,eval e X.env)::starEach es X.env:=by rfl) (hpl:(backTo pos (starEach es X.env)).any (·.1)=false:=by rfl):PE X (.Call (.Name x p) (e::es) [] pos) (tCB r t):=by
 intro pins s σ H Q I h
 refine wpAny_Call_Name_kw (aeR I hg hm hv ?_ hn hdb)
 exact PyProof.Rows.callWith_builtin1 (thn (ha pos pins s σ H _ I h) fun us s1 ⟨vs,H1,I1,r1,q1⟩=>hc pins s1 σ H1 vs us Q I1 r1 q1) he hpl
theorem akM(hc:afW X (.type T) r)(hg:Gl X x)(hm:X.mg x=none)(hv:bootBuiltins x=some (.type T))(ha:PA X (e::es) t)(hn:x≠"__name__":=by decide)(hdb:(x==("__debug__":Str))=false:=by decide)
  (he:starEach (e::es) X.env=(false,eval e X.env)::starEach es X.env:=by rfl) (hpl:(backTo pos (starEach es X.env)).any (·.1)=false:=by rfl):PE X (.Call (.Name x p) (e::es) [] pos) (tCB r t):=by
 intro pins s σ H Q I h
 refine wpAny_Call_Name_kw (aeR I hg hm hv ?_ hn hdb)
 exact PyProof.Rows.callWith_type1 (thn (ha pos pins s σ H _ I h) fun us s1 ⟨vs,H1,I1,r1,q1⟩=>hc pins s1 σ H1 vs us Q I1 r1 q1) he hpl
end
end L2
namespace HT
open PySem PyProof.Rows
section
open PySem.SeqAt
open PySem.AutoSeq1 (wpAny_loadPart')
open PySem.MeetsSeq PySem.MeetsSeq2 PySem.MeetsSeq3
end
section
variable{prog:Program}{w:World}{A:Around}{E:Value->Shared->Prop}{s:Shared}
def sIx(n d:Nat):Option Int->Nat
 |none=>d
 |some v=>if v<0 then (v+(n:Int)).toNat else min v.toNat n
theorem sIx_none(n d:Nat):sIx n d none=d:=rfl
theorem sIx_nat(n d k:Nat):sIx n d (some (k:Int))=min k n:=by
 show (if (k:Int)<0 then ((k:Int)+(n:Int)).toNat else min (k:Int).toNat n)=min k n
 rw[if_neg (by omega),Int.toNat_natCast]
end
end HT
namespace L2
open PySem PySem.Spec PyProof.Rows
abbrev TO:=St->Hp->(Option Int->Hp->Prop)->Prop
def PO(X:Cx)(e:Option Expr)(t:TO):Prop:=
 ∀(pins:List (Addr×Obj)) (s:Shared) (σ:St) (H:Hp) (Q:Option Int->Hp->Prop),Inv X pins σ H s->t σ H Q->
  wpAny (model X.prog X.w) X.A (evalPart e X.env) (fun u s'=>∃o H',Inv X pins σ H' s'/\IsPart u o/\Q o H') X.xe s
def ai7:TO:=fun _ H Q=>Q none H
def aoW(t:TE):TO:=fun σ H Q=>t σ H fun x H1=>∃i,x=.int i/\Q (some i) H1
section
variable{X:Cx}{e:Expr}{te:TE}{lo hi:Option Expr}{tl th:TO}{pos p2:Pos}
theorem an0:PO X none ai7:=by
 intro pins s σ H Q I h
 rw[evalPart_none]
 exact wpAny_pure ⟨none,H,I,.none,h⟩
theorem aoE(h:PE X e te):PO X (some e) (aoW te):=by
 intro pins s σ H Q I hw
 rw[evalPart_some]
 refine thn (h pins s σ H _ I hw) fun u s1 ⟨x,H1,I1,r1,q1⟩=>?_
 obtain⟨i,rfl,q⟩:=q1
 obtain⟨t,rfl⟩:=r1
 exact⟨some i,H1,I1,.int i t,q⟩
def SlR(X:Cx)(r:V->Option Int->Option Int->Hp->VK->Prop):Prop:=
 ∀(pins:List (Addr×Obj)) (s:Shared) (σ:St) (H:Hp) (x:V) (v vl vu:Value) (lo hi:Option Int) (sl:Addr) (Q:VK),Inv X pins σ H s->RelV x v->s.heap.IsSliceOf sl vl vu .none->IsPart vl lo->IsPart vu hi->r x lo hi H Q->
  ∃T id,typeLookup (.type T) "__getitem__"=pure (some (.builtin id))/\s.TypeIs v T/\wpAny (model X.prog X.w) X.A (getItem v (.ref sl)) (EP X pins σ Q) X.xe s
def tSl(r:V->Option Int->Option Int->Hp->VK->Prop)(te:TE)(tl th:TO):TE:=fun σ H Q=>te σ H fun x H1=>tl σ H1 fun l H2=>th σ H2 fun u H3=>r x l u H3 Q
theorem al7{r:V->Option Int->Option Int->Hp->VK->Prop}(hr:SlR X r)(he:PE X e te)(hl:PO X lo tl)(hu:PO X hi th):PE X (.Subscript e (.Slice lo hi none p2) pos) (tSl r te tl th):=by
 intro pins s σ H Q I h
 refine Subscript_ (thn (he pins s σ H _ I h) fun v s1 ⟨x,H1,I1,r1,q1⟩=>?_)
 refine wpAny_Slice (thn (hl pins s1 σ H1 _ I1 q1) fun vl s2 ⟨l,H2,I2,pl,q2⟩=>thn (hu pins s2 σ H2 _ I2 q2) fun vu s3 ⟨u,H3,I3,pu,q3⟩=>?_)
 rw[evalPart_none]
 refine wpAny_pure ?_
 have I4:Inv X pins σ H3 {s3 with heap:=s3.heap.push {cls:=.type "slice",data:=.fields #[vl,vu,.none]} }:=I3.kept (t':=s3.toks) fun b ob q=>Heap.get?_push_of_some _ q
 obtain⟨T,id,hT,ht,hg⟩:=hr pins {s3 with heap:=s3.heap.push {cls:=.type "slice",data:=.fields #[vl,vu,.none]} } σ H3 x v vl vu l u s3.heap.objs.size Q I4 r1 (Heap.IsSliceOf.new ..) pl pu q3
 show wpAny (model X.prog X.w) X.A (subscriptTail e (.Slice lo hi none p2) v (.ref s3.heap.objs.size)) (EP X pins σ Q) X.xe {s3 with heap:=s3.heap.push {cls:=.type "slice",data:=.fields #[vl,vu,.none]} }
 exact tail_any (ops:=[.ref s3.heap.objs.size,v]) ht hT hg (by with_unfolding_all rfl)
def acI(xs:List V)(lo hi:Option Int):List V:=(xs.drop (HT.sIx xs.length 0 lo)).take (HT.sIx xs.length xs.length hi-HT.sIx xs.length 0 lo)
theorem ahN(xs:List V)(lo hi:Option Int):(acI xs lo hi).length<=xs.length:=by
 unfold acI
 rw[List.length_take,List.length_drop]
 omega
end
def ixN(n:Nat)(i:Int):Option Nat:=if 0<=i then (if i<n then some i.toNat else none) else if -(n:Int)<=i then some (i+n).toNat else none
def atI{α:Type}(xs:List α)(i:Int):Option α:=(ixN xs.length i).bind fun j=>xs[j]?
theorem ajX{n:Nat}{i:Int}{j:Nat}(h:ixN n i=some j):seqIndex? i n=some j/\j<n/\ -(n:Int)<=i/\i<n:=by
 unfold ixN at h
 by_cases h0:0<=i
 ·rw[if_pos h0] at h
  by_cases h1:i<n
  ·rw[if_pos h1] at h
   have e:i.toNat=j:=Option.some.inj h
   exact⟨by rw[seqIndex_of h0 h1,e],by omega,by omega,h1⟩
  ·rw[if_neg h1] at h;cases h
 ·rw[if_neg h0] at h
  by_cases h1: -(n:Int)<=i
  ·rw[if_pos h1] at h
   have e:(i+n).toNat=j:=Option.some.inj h
   exact⟨by rw[seqIndex_neg (by omega) h1,e],by omega,h1,by omega⟩
  ·rw[if_neg h1] at h;cases h
theorem ajH{α:Type}{xs:List α}{i:Int}{v:α}(h:atI xs i=some v):∃j,seqIndex? i xs.length=some j/\xs[j]? =some v/\j<xs.length/\ -(xs.length:Int)<=i/\i<xs.length:=by
 unfold atI at h
 cases e:ixN xs.length i with
 |none=>rw[e] at h;cases h
 |some j=>
  rw[e] at h
  obtain⟨h1,h2,h3,h4⟩:=ajX e
  exact⟨j,h1,h,h2,h3,h4⟩
theorem acH{α:Type}{xs:List α}{j:Nat}{v:α}(h:xs[j]? =some v):atI xs (j:Int)=some v:=by
 have hj:j<xs.length:=(List.getElem?_eq_some_iff.mp h).1
 have e:ixN xs.length (j:Int)=some j:=by
  unfold ixN
  rw[if_pos (by omega),if_pos (by omega)];simp
 unfold atI;rw[e];exact h
def ajR(b:Expr):Prop:=∀o i,subscripted b false o i=operate [o,i] (getItem o i)
def IxR(X:Cx)(r:R2):Prop:=
 ∀(value slice:Expr) (pins:List (Addr×Obj)) (s:Shared) (σ:St) (H:Hp) (x y:V) (v u:Value) (Q:VK),Inv X pins σ H s->RelV x v->RelV y u->r x y H Q->
  subscripted slice false v u=operate [v,u] (getItem v u)->wpAny (model X.prog X.w) X.A (subscriptTail value slice v u) (EP X pins σ Q) X.xe s
def MtR(X:Cx)(id:String)(r:V->List V->Hp->VK->Prop):Prop:=
 ∀(pins:List (Addr×Obj)) (s:Shared) (σ:St) (H:Hp) (x:V) (xs:List V) (v:Value) (us:List Value) (Q:VK),Inv X pins σ H s->RelV x v->Vals xs us->r x xs H Q->
  wpAny (model X.prog X.w) X.A (call (.builtin id) (v::us)) (EP X pins σ Q) X.xe s
section
variable{X:Cx}{a b:Expr}{ta tb:TE}{pos:Pos}
theorem aq9{r:R2}(hr:IxR X r)(ha:PE X a ta)(hb:PE X b tb)(hs:ajR b):PE X (.Subscript a b pos) (tOp r ta tb):=by
 intro pins s σ H Q I h
 exact Subscript_ (apO ha hb I h fun v u s2 x y H2 I2 rx ry q=>hr a b pins s2 σ H2 x y v u Q I2 rx ry q (hs _ _))
def ap7(K:PySem.W.Frag):R2:=fun x y H Q=>∃p xs i v,x=.ref p/\y=.int i/\SqL K H p xs/\atI xs i=some v/\Q v H
def arX(K:PySem.W.Frag):R2:=fun x y H Q=>∃p xs i v,x=.ref p/\y=.int i/\SqT K H p xs/\atI xs i=some v/\Q v H
theorem anT:IxR X (ap7 X.K):=by
 intro value slice pins s σ H x y v u Q I rx ry h hs
 obtain⟨p,xs,i,z,rfl,rfl,hq,he,q⟩:=h
 cases rx
 obtain⟨t,rfl⟩:=ry
 obtain⟨its,r,pl,hz⟩:=I.list hq
 obtain⟨j,h1,h2,h3,h4,h5⟩:=ajH he
 obtain⟨w,ew,rw'⟩:=r.get h2
 have hl:=r.length
 have hn:=agR
 have fin:EP X pins σ Q w s:=⟨z,H,I,rw',q⟩
 by_cases h0:0<=i
 ·have hj:i.toNat=j:=by
   rw[seqIndex_of h0 h5] at h1
   exact Option.some.inj h1
  exact item_listR pl.isList h0 (by omega) (by rw[hj];simpa using ew) fin hs
 ·have hj:(i+(its.toArray.size:Int)).toNat=j:=by
   rw[seqIndex_neg (by omega) h4] at h1
   rw[List.size_toArray,←hl]
   exact Option.some.inj h1
  exact subscriptTail_builtinR (x:=w) pl.isList.typeIs slot_list_getitem.lookup
   (wpAny_getItem_list_neg (Q:=fun r s'=>r=w/\EP X pins σ Q r s') pl.isList (by omega) (by rw[List.size_toArray]<;>omega) (by omega) (by rw[hj];simpa using ew) ⟨rfl,fin⟩) hs
theorem aqB:IxR X (arX X.K):=by
 intro value slice pins s σ H x y v u Q I rx ry h hs
 obtain⟨p,xs,i,z,rfl,rfl,hq,he,q⟩:=h
 cases rx
 obtain⟨t,rfl⟩:=ry
 obtain⟨its,r,pl,hz⟩:=I.tuple hq
 obtain⟨j,h1,h2,h3,h4,h5⟩:=ajH he
 obtain⟨w,ew,rw'⟩:=r.get h2
 have hl:=r.length
 have hn:=agR
 have fin:EP X pins σ Q w s:=⟨z,H,I,rw',q⟩
 exact subscriptTail_builtinR (x:=w) pl.typeIs slot_tuple_getitem.lookup
  (getItem_tuple (j:=j) (Q:=fun r s'=>r=w/\EP X pins σ Q r s') pl (by omega) (by omega) (by rw[List.size_toArray,←hl];exact h1) (by simpa using ew) ⟨rfl,fin⟩) hs
theorem aiF(its:List Value)(n j:Nat)(u:Value):Obj.mapSeq (·.setIfInBounds j u) {cls:=.type "list",data:=.seq its.toArray n}={cls:=.type "list",data:=.seq (its.set j u).toArray n}:=by
 simp[Obj.mapSeq]
theorem Inv.lst{pins:List (Addr×Obj)}{σ:St}{H:Hp}{s:Shared}{p:Addr}{xs:List V}(I:Inv X pins σ H s)(h:H p=some (.lst xs)):
  ∃(its:List Value) (n:Nat),Vals xs its/\s.heap.get? p=some {cls:=.type "list",data:=.seq its.toArray n}/\xs.length<=sizeLine:=by
 obtain⟨z,its,n,r,e⟩:=I.hok p _ h
 exact⟨its,n,r,e,z⟩
theorem Inv.lstUpd{pins:List (Addr×Obj)}{σ:St}{H:Hp}{s:Shared}{p:Addr}{xs ys:List V}{its its':List Value}{n n':Nat}{f:Obj->Obj}(I:Inv X pins σ H s)(h:H p=some (.lst xs))
  (ho:s.heap.get? p=some {cls:=.type "list",data:=.seq its.toArray n}) (hf:f {cls:=.type "list",data:=.seq its.toArray n}={cls:=.type "list",data:=.seq its'.toArray n'}) (r:Vals ys its') (hz:ys.length<=sizeLine) (t:Nat):
  Inv X pins σ (upd H p (.lst ys)) {s with heap:=s.heap.update p f,toks:=t}:=by
 have e:(s.heap.update p f).get? p=some {cls:=.type "list",data:=.seq its'.toArray n'}:=by
  rw[Heap.get?_update_self f ho (by rw[hf]<;>rfl),hf]
 refine I.write (x:=p) (e:=p) (by rw[h];trivial) (.inl rfl) (fun b u hb q=>(Heap.get?_update_other _ _ (Ne.symm hb)).trans q) ⟨_,e⟩ ?_
 exact⟨hz,its',n',r,e⟩
def aoS:V->V->V->Hp->(Hp->Prop)->Prop:=fun o i v H Q=>∃p xs k j,o=.ref p/\i=.int k/\H p=some (.lst xs)/\ixN xs.length k=some j/\Q (upd H p (.lst (xs.set j v)))
theorem amI:asQ X aoS:=by
 intro pins s σ H o i v ov iv u Q I ro ri rv h
 obtain⟨p,xs,k,j,rfl,rfl,hp,hj,q⟩:=h
 cases ro
 obtain⟨t,rfl⟩:=ri
 obtain⟨its,n,r,ho,hz⟩:=I.lst hp
 obtain⟨h1,h2,h3,h4⟩:=ajX hj
 have hl:=r.length
 have hn:=agR
 have I':Inv X pins σ (upd H p (.lst (xs.set j v))) {s with heap:=s.heap.update p (Obj.mapSeq (·.setIfInBounds j u))}:=
  I.lstUpd hp ho (aiF its n j u) (r.set rv j) (by rw[List.length_set];exact hz) s.toks
 by_cases h0:0<=k
 ·have hk:k.toNat=j:=by
   rw[seqIndex_of h0 h4] at h1
   exact Option.some.inj h1
  exact PySem.W.ki_setAt ho h0 (by omega) (by rw[List.size_toArray,←hl];exact h4) (by rw[hk];exact⟨_,I',q⟩)
 ·have hk:(k+(its.toArray.size:Int)).toNat=j:=by
   rw[seqIndex_neg (by omega) h3] at h1
   rw[List.size_toArray,←hl]
   exact Option.some.inj h1
  exact PySem.W.ki_setBack ho (by omega) (by rw[List.size_toArray,←hl];exact h3) (by omega) (by rw[hk];exact⟨_,I',q⟩)
theorem agB(lo hi:Option Int)(n:Nat):(sliceBounds lo hi none n).1=((HT.sIx n 0 lo:Nat):Int)/\(sliceBounds lo hi none n).2.1=((HT.sIx n n hi:Nat):Int)/\(sliceBounds lo hi none n).2.2=1:=by
 refine⟨?_,?_,rfl⟩
 ·cases lo with
  |none=>simp[sliceBounds,HT.sIx]
  |some i=>
   simp only[sliceBounds,HT.sIx,Option.getD_none,show (1:Int)>0 by decide,if_true]
   by_cases h:i<0
   ·simp only[h,if_true]<;>omega
   ·simp only[h,if_false]<;>omega
 ·cases hi with
  |none=>simp[sliceBounds,HT.sIx]
  |some i=>
   simp only[sliceBounds,HT.sIx,Option.getD_none,show (1:Int)>0 by decide,if_true]
   by_cases h:i<0
   ·simp only[h,if_true]<;>omega
   ·simp only[h,if_false]<;>omega
theorem afL(its:List Value)(lo hi:Option Int):slicePick its.toArray lo hi none=((its.drop (HT.sIx its.length 0 lo)).take (HT.sIx its.length its.length hi-HT.sIx its.length 0 lo)).toArray:=by
 obtain⟨h1,h2,h3⟩:=agB lo hi its.toArray.size
 unfold slicePick
 rw[h1,h2,h3]
 simp only[sliceRange_one,pick_run,List.size_toArray]<;>rfl
def arB(K:PySem.W.Frag):V->Option Int->Option Int->Hp->VK->Prop:=fun x lo hi H Q=>∃a xs,x=.ref a/\SqL K H a xs/\∀p,H p=none->Q (.ref p) (upd H p (.lst (acI xs lo hi)))
theorem anG:SlR X (arB X.K):=by
 intro pins s σ H x v vl vu lo hi sl Q I rx hs pl pu h
 obtain⟨a,xs,rfl,hx,q⟩:=h
 cases rx
 obtain⟨its,r,ht,hz⟩:=I.list hx
 have hlen:=r.length
 refine⟨"list",_,slot_list_getitem.lookup,ht.isList.typeIs,?_⟩
 refine wpAny_getItem_list_slice ht.isList hs pl pu .none (by simp) ?_ (by rw[List.size_toArray]<;>omega)
 rw[afL,←hlen]
 refine⟨.ref s.heap.objs.size,_,I.laid (t':=s.toks) (o:=.lst (acI xs lo hi)) (fun b ob q=>Heap.get?_push_of_some _ q) (Nat.le_refl _) ?_,rfl,q _ (I.hok.fresh (Nat.le_refl _))⟩
 exact⟨Nat.le_trans (ahN xs lo hi) hz,_,0,(r.drop (HT.sIx xs.length 0 lo)).take (HT.sIx xs.length xs.length hi-HT.sIx xs.length 0 lo),Heap.get?_push_size _ rfl⟩
def ac7:V->Bool
 |.non=>true
 |.bl _=>true
 |.int _=>true
 |.str _=>true
 |_=>false
def eqV:V->V->Bool
 |.non,.non=>true
 |.bl a,.bl b=>a==b
 |.bl a,.int b=>(if a then 1 else 0)==b
 |.int a,.bl b=>a==(if b then 1 else 0)
 |.int a,.int b=>a==b
 |.str a,.str b=>a==b
 |_,_=>false
theorem apN{A:Around}{s:Shared}{y x:V}{u v:Value}(ry:RelV y u)(rx:RelV x v)(fy:ac7 y=true)(fx:ac7 x=true):SeqAt.EqAt A s u v (eqV y x):=by
 cases y with
 |non=>
  cases ry
  cases x with
  |non=>cases rx;exact SeqAt.EqAt.same _
  |bl b=>cases rx;exact SeqAt.EqAt.none_bool b
  |int b=>obtain⟨t,rfl⟩:=rx;exact SeqAt.EqAt.none_int b t
  |str b=>obtain⟨t,rfl⟩:=rx;exact SeqAt.EqAt.none_str b t
  |_=>exact absurd (show false=true from fx) Bool.false_ne_true
 |bl a=>
  cases ry
  cases x with
  |non=>cases rx;exact SeqAt.EqAt.bool_none a
  |bl b=>cases rx;exact SeqAt.EqAt.bool_bool a b
  |int b=>obtain⟨t,rfl⟩:=rx;exact SeqAt.EqAt.bool_int a b t
  |str b=>obtain⟨t,rfl⟩:=rx;exact SeqAt.EqAt.bool_str a b t
  |_=>exact absurd (show false=true from fx) Bool.false_ne_true
 |int a=>
  obtain⟨t',rfl⟩:=ry
  cases x with
  |non=>cases rx;exact SeqAt.EqAt.int_none a t'
  |bl b=>cases rx;exact SeqAt.EqAt.int_bool a t' b
  |int b=>obtain⟨t,rfl⟩:=rx;exact SeqAt.EqAt.int_int a t' b t
  |str b=>obtain⟨t,rfl⟩:=rx;exact SeqAt.EqAt.int_str a t' b t
  |_=>exact absurd (show false=true from fx) Bool.false_ne_true
 |str a=>
  obtain⟨t',rfl⟩:=ry
  cases x with
  |non=>cases rx;exact SeqAt.EqAt.str_none a t'
  |bl b=>cases rx;exact SeqAt.EqAt.str_bool a t' b
  |int b=>obtain⟨t,rfl⟩:=rx;exact SeqAt.EqAt.str_int a t' b t
  |str b=>obtain⟨t,rfl⟩:=rx;exact SeqAt.EqAt.str_str a t' b t
  |_=>exact absurd (show false=true from fx) Bool.false_ne_true
 |_=>exact absurd (show false=true from fy) Bool.false_ne_true
def eqU(x:V)(u:Value):Bool:=match u with
 |.none=>eqV .non x
 |.bool b=>eqV (.bl b) x
 |.int i _=>eqV (.int i) x
 |.str z _=>eqV (.str z) x
 |_=>false
theorem amF{x y:V}{u:Value}(r:RelV y u)(f:ac7 y=true):eqU x u=eqV y x:=by
 cases y with
 |non=>cases r;rfl
 |bl b=>cases r;rfl
 |int i=>obtain⟨t,rfl⟩:=r;rfl
 |str z=>obtain⟨t,rfl⟩:=r;rfl
 |_=>exact absurd (show false=true from f) Bool.false_ne_true
theorem agP{x:V}:∀{xs:List V} {us:List Value},Vals xs us->xs.all ac7=true->us.any (eqU x)=xs.any fun y=>eqV y x
 |_,_,.nil,_=>rfl
 |y::xs,u::us,.cons r t,f=>by
  rw[List.all_cons,Bool.and_eq_true] at f
  rw[List.any_cons,List.any_cons,amF r f.1,agP t f.2]
theorem aeI{A:Around}{s:Shared}{x:V}{v:Value}(rx:RelV x v)(fx:ac7 x=true):∀{xs:List V} {us:List Value},Vals xs us->xs.all ac7=true->∀u∈us,SeqAt.EqAt A s u v (eqU x u)
 |_,_,.nil,_=>fun u hu=>by cases hu
 |y::xs,u::us,.cons r t,f=>fun u' hu=>by
  rw[List.all_cons,Bool.and_eq_true] at f
  rcases List.mem_cons.mp hu with rfl | hu
  ·rw[amF r f.1];exact apN r rx f.1 fx
  ·exact aeI rx fx t f.2 u' hu
def inV(x:V)(xs:List V):Bool:=xs.any fun y=>eqV y x
def rIn(K:PySem.W.Frag)(neg:Bool):R2:=fun x y H Q=>∃p xs,y=.ref p/\(SqL K H p xs∨SqT K H p xs)/\ac7 x=true/\xs.all ac7=true/\Q (.bl (if neg then !inV x xs else inV x xs)) H
theorem akS:OpR X (compareOp .In) (rIn X.K false):=by
 intro pins s σ H x y v u Q I rx ry h
 obtain⟨p,xs,rfl,hq,fx,fs,q⟩:=h
 cases ry
 rcases hq with hq | hq
 ·obtain⟨its,r,pl,hz⟩:=I.list hq
  refine SeqAt.in_listAt (eqU x) pl.isList (fun w hw=>aeI rx fx r fs w (by simpa using hw)) ⟨.bl _,H,I,rfl,?_⟩
  rw[show its.toArray.any (eqU x)=its.any (eqU x) by simp,agP r fs]
  exact q
 ·obtain⟨its,r,pl,hz⟩:=I.tuple hq
  refine SeqAt.in_tupleAt (eqU x) pl (fun w hw=>aeI rx fx r fs w (by simpa using hw)) ⟨.bl _,H,I,rfl,?_⟩
  rw[show its.toArray.any (eqU x)=its.any (eqU x) by simp,agP r fs]
  exact q
theorem agU:afW X (.builtin "len") (fun xs H Q=>∃p ys,xs=[.ref p]/\(SqL X.K H p ys∨SqT X.K H p ys)/\Q (.int ys.length) H):=by
 intro pins s σ H xs us Q I r h
 obtain⟨p,ys,rfl,hq,q⟩:=h
 obtain⟨u,rfl,rx⟩:=adQ r
 cases rx
 have hn:=agR
 rcases hq with hq | hq
 ·obtain⟨its,r',pl,hz⟩:=I.list hq
  have hlen:=r'.length
  exact Calls.call_len_list pl.isList (by simp only[List.size_toArray]<;>omega) ⟨.int ys.length,H,I.tok _,⟨s.toks+1,by rw[List.size_toArray,hlen]⟩,q⟩
 ·obtain⟨its,r',pl,hz⟩:=I.tuple hq
  have hlen:=r'.length
  exact len_tuple pl (by simp only[List.size_toArray]<;>omega) ⟨.int ys.length,H,I.tok _,⟨s.toks+1,by rw[List.size_toArray,hlen]⟩,q⟩
def tyV(K:PySem.W.Frag)(T:String)(x:V)(H:Hp):Prop:=match x with
 |.str _=>T="str"
 |.int _=>T="int"
 |.ref p=>(T="list"/\∃xs,SqL K H p xs)∨(T="tuple"/\∃o,K.lookup p=some o/\o.cls=.type "tuple"/\o.dict=none)∨
   (T="dict"/\((∃kvs,H p=some (.dK kvs))∨∃kvs,H p=some (.dT kvs)))∨(T="set"/\∃S n,H p=some (.set S n))
 |_=>False
theorem amJ{pins:List (Addr×Obj)}{σ:St}{H:Hp}{s:Shared}{T:String}{x:V}{v:Value}(I:Inv X pins σ H s)(r:RelV x v)(ty:tyV X.K T x H):
  s.TypeIs v T/\∀a,v=.ref a->∃ob,s.heap.get? a=some ob/\ob.dict=none:=by
 cases x with
 |str z=>
  obtain⟨t,rfl⟩:=r
  cases (show T="str" from ty)
  exact⟨typeIs_str s z t,fun _ e=>nomatch e⟩
 |int i=>
  obtain⟨t,rfl⟩:=r
  cases (show T="int" from ty)
  exact⟨typeIs_int s i t,fun _ e=>nomatch e⟩
 |ref p=>
  cases r
  rcases ty with ⟨rfl,xs,hq⟩ | ⟨rfl,o,hk,hc,hd⟩ | ⟨rfl,hk⟩ | ⟨rfl,S,n,hk⟩
  ·obtain⟨its,_,pl,_⟩:=I.list hq
   refine⟨pl.isList.typeIs,fun a e=>?_⟩
   cases e
   obtain⟨o,n,e,c,hd,_⟩:=pl
   exact⟨o,e,hd⟩
  ·refine⟨⟨o,I.kIn p o hk,hc⟩,fun a e=>?_⟩
   cases e
   exact⟨o,I.kIn _ o hk,hd⟩
  ·have z:∃o,s.heap.get? p=some o/\o.ExactDict:=by
    rcases hk with ⟨kvs,hk⟩ | ⟨kvs,hk⟩
    ·obtain⟨_,_,_,_,o,_,_,e,ex,_⟩:=I.hok p _ hk
     exact⟨o,e,ex⟩
    ·obtain⟨_,_,_,_,o,_,_,e,ex,_⟩:=I.hok p _ hk
     exact⟨o,e,ex⟩
   obtain⟨o,e,ex⟩:=z
   refine⟨⟨o,e,ex.1⟩,fun a e2=>?_⟩
   cases e2
   exact⟨o,e,ex.2.1⟩
  ·obtain⟨o,_,_,_,e,ex,_⟩:=I.hok p _ hk
   refine⟨⟨o,e,ex.1⟩,fun a e2=>?_⟩
   cases e2
   exact⟨o,e,ex.2.1⟩
 |_=>exact False.elim ty
def asM(K:PySem.W.Frag)(T:String)(r:V->List V->Hp->VK->Prop)(to:TE):TE:=fun σ H Q=>to σ H fun x H1=>tyV K T x H1/\r x [] H1 Q
def tBM(K:PySem.W.Frag)(T:String)(r:V->List V->Hp->VK->Prop)(to:TE)(t:TA):TE:=fun σ H Q=>to σ H fun x H1=>tyV K T x H1/\t σ H1 fun xs H2=>r x xs H2 Q
variable{o e:Expr}{es:List Expr}{to:TE}{t:TA}{name:Str}{apos cpos:Pos}{T id:String}{r:V->List V->Hp->VK->Prop}
theorem apQ(pa:PlainAttrs T)(slot:Slot T name id)(hty:typeOf (.builtin id)=pure (.type "method_descriptor"))(hm:MtR X id r)(ho:PE X o to)
  (hbase:attributeBase o name X.env (eval o X.env)=eval o X.env:=by rfl) (hline:(apos.endLine==cpos.line)=true:=by rfl):PE X (.Call (.Attribute o name apos) [] [] cpos) (asM X.K T r to):=by
 intro pins s σ H Q I h
 refine wpAny_Call_method0_late hbase hline (thn (ho pins s σ H _ I h) fun v s1 ⟨x,H1,I1,r1,ty,q1⟩=>?_)
 obtain⟨h1,h2⟩:=amJ I1 r1 ty
 exact⟨T,id,pa,slot,hty,h1,h2,Calls.callWith_builtin rfl (PySem.evalArgs_none (hm pins s1 σ H1 x [] v [] Q I1 r1 .nil q1))⟩
theorem alN(pa:PlainAttrs T)(slot:Slot T name id)(hty:typeOf (.builtin id)=pure (.type "method_descriptor"))(hm:MtR X id r)(ho:PE X o to)(ha:PA X (e::es) t)
  (hbase:attributeBase o name X.env (eval o X.env)=eval o X.env:=by rfl)
  (hfew:((backTo cpos (starEach (e::es) X.env)).all (fun x=> !x.1)&&(backToKw cpos (keywordEach [] X.env)).all (fun x=>x.1.isSome)
   &&decide ((e::es).length+([]:List Keyword).length+(if ([]:List Keyword).isEmpty then 0 else 1)<30))=true:=by rfl)
  (hline:(apos.endLine==cpos.line)=true:=by rfl) (hs:starEach (e::es) X.env=(false,eval e X.env)::starEach es X.env:=by rfl) (hplain:(backTo cpos (starEach es X.env)).any (·.1)=false:=by rfl):
  PE X (.Call (.Attribute o name apos) (e::es) [] cpos) (tBM X.K T r to t):=by
 intro pins s σ H Q I h
 refine wpAny_Call_method_late hbase hfew hline rfl (thn (ho pins s σ H _ I h) fun v s1 ⟨x,H1,I1,r1,ty,q1⟩=>?_)
 obtain⟨h1,h2⟩:=amJ I1 r1 ty
 refine⟨T,id,pa,slot,hty,h1,h2,?_⟩
 have hA:=ha cpos pins s1 σ H1 _ I1 q1
 rw[hs] at hA ⊢
 refine Calls.callWith_builtin (by show (false||(backTo cpos (starEach es X.env)).any (·.1))=false;rw[hplain]<;>rfl) (Calls.evalArgs_plain ?_)
 exact thn hA fun us s2 ⟨vs,H2,I2,r2,q2⟩=>hm pins s2 σ H2 x vs v us Q I2 r1 r2 q2
/- xs.append(e),list.index on a module's tuple .. are MtR facts of 06m -/
end
def MtM(X:Cx)(id:String)(r:V->List V->Hp->VK->Prop):Prop:=
 ∀(pins:List (Addr×Obj)) (s:Shared) (σ:St) (H:Hp) (x:V) (xs:List V) (v:Value) (us:List Value) (Q:VK),Inv X pins σ H s->RelV x v->Vals xs us->r x xs H Q->
  wpAny (model X.prog X.w) X.A (call (.builtin id) (v::us)) (EP X pins σ Q) X.xe s
theorem Vals.one:∀{x:V} {us:List Value},Vals [x] us->∃u,us=[u]/\RelV x u
 |_,_,.cons r .nil=>⟨_,rfl,r⟩
theorem Vals.zero:∀{us:List Value},Vals [] us->us=[]
 |_,.nil=>rfl
theorem Vals.rep{xs:List V}{us:List Value}(h:Vals xs us):∀k:Nat,Vals (List.replicate k xs).flatten (List.replicate k us).flatten
 |0=>.nil
 |k+1=>by
  rw[List.replicate_succ,List.replicate_succ,List.flatten_cons,List.flatten_cons]
  exact Vals.append h (Vals.rep h k)
theorem af7(its:List Value):∀(k:Nat) (acc:List Value),
  List.foldl (fun x1 x2=>x1++x2) acc.toArray (List.replicate k its.toArray)=(acc++(List.replicate k its).flatten).toArray
 |0,acc=>by simp
 |k+1,acc=>by
  have e:acc.toArray++its.toArray=(acc++its).toArray:=by simp
  have e2:(acc++its)++(List.replicate k its).flatten=acc++(List.replicate (k+1) its).flatten:=by
   rw[List.replicate_succ,List.flatten_cons,List.append_assoc]
  rw[←e2,←af7 its k (acc++its),←e,List.replicate_succ,List.foldl_cons]
section
variable{X:Cx}{pins:List (Addr×Obj)}{σ:St}{H:Hp}{s:Shared}{l b:Addr}{xs ys zs:List V}
theorem Inv.lset{its its':List Value}{n:Nat}{f:Array Value->Array Value}{t':Nat}(I:Inv X pins σ H s)(hH:H l=some (.lst xs))
  (e:s.heap.get? l=some {cls:=.type "list",data:=.seq its.toArray n}) (hf:f its.toArray=its'.toArray) (hv:Vals ys its') (hz:ys.length<=sizeLine):
  Inv X pins σ (upd H l (.lst ys)) {s with heap:=s.heap.update l (Obj.mapSeq f),toks:=t'}:=by
 have q:=PySem.IsL.update e f
 rw[hf] at q
 refine I.write (x:=l) (e:=l) (by rw[hH];exact trivial) (.inl rfl) (fun b' u hb hu=>(Heap.get?_update_other s.heap (Obj.mapSeq f) (Ne.symm hb)).trans hu) ⟨_,q⟩ ?_
 exact⟨hz,its',_,hv,q⟩
theorem Inv.lnew{its:List Value}{t':Nat}(I:Inv X pins σ H s)(hv:Vals ys its)(hz:ys.length<=sizeLine):
  Inv X pins σ (upd H s.heap.objs.size (.lst ys)) {s with heap:=s.heap.push {cls:=.type "list",data:=.seq its.toArray},toks:=t'}:=
 I.laid (fun _ _ q=>Heap.get?_push_of_some _ q) (Nat.le_refl _) ⟨hz,its,0,hv,Heap.get?_push_size _ rfl⟩
theorem Inv.fresh(I:Inv X pins σ H s):H s.heap.objs.size=none:=I.hok.fresh (Nat.le_refl _)
theorem Inv.lstM(I:Inv X pins σ H s)(hH:H l=some (.lst xs)):xs.length<=sizeLine/\∃(its:List Value) (n:Nat),Vals xs its/\xs.length=its.length/\s.heap.get? l=some {cls:=.type "list",data:=.seq its.toArray n}:=by
 obtain⟨z,its,n,r,e⟩:=I.hok l _ hH
 exact⟨z,its,n,r,r.length,e⟩
theorem ahY{n:Nat}(h:n<=sizeLine):Builtin.List.listTooLong n=false:=by
 unfold Builtin.List.listTooLong
 exact decide_eq_false (by omega)
end
section
variable{X:Cx}
def ai1:V->List V->Hp->VK->Prop:=fun x vs H Q=>∃l xs y,x=.ref l/\vs=[y]/\H l=some (.lst xs)/\xs.length<sizeLine/\Q .non (upd H l (.lst (xs++[y])))
theorem acF:MtM X "list.append" ai1:=by
 intro pins s σ H x vs v us Q I rx rv h
 obtain⟨l,xs,y,rfl,rfl,hH,hz,q⟩:=h
 cases rx
 obtain⟨u,rfl,ru⟩:=rv.one
 obtain⟨z,its,n,r,hl,e⟩:=I.lstM hH
 refine call_meets F.slot_list_append ⟨_,e,rfl⟩ F.entry_list_append (F.args_list_append_2 _ _) (PySem.list_append l its.toArray n u (by rw[List.size_toArray];omega)) ⟨e,?_⟩
 refine⟨.non,_,I.lset (its':=its++[u]) hH e (by simp) (r.append (.cons ru .nil)) ?_,rfl,q⟩
 rw[List.length_append,List.length_singleton]
 omega
def ajY:V->List V->Hp->VK->Prop:=fun x vs H Q=>∃l b xs zs,x=.ref l/\vs=[.ref b]/\H l=some (.lst xs)/\H b=some (.lst zs)/\xs.length+zs.length<=sizeLine/\Q .non (upd H l (.lst (xs++zs)))
theorem akK:MtM X "list.extend" ajY:=by
 intro pins s σ H x vs v us Q I rx rv h
 obtain⟨l,b,xs,zs,rfl,rfl,hH,hB,hz,q⟩:=h
 cases rx
 obtain⟨u,rfl,ru⟩:=rv.one
 cases ru
 obtain⟨z,its,n,r,hl,e⟩:=I.lstM hH
 obtain⟨z2,its2,n2,r2,hl2,e2⟩:=I.lstM hB
 have hsz:its.toArray.size+its2.toArray.size<=sizeLine:=by rw[List.size_toArray,List.size_toArray];omega
 have hlong:¬(!its.toArray.isEmpty&&Builtin.List.listTooLong (its.toArray.size+its2.toArray.size))=true:=by
  rw[ahY hsz,Bool.and_false]
  exact Bool.false_ne_true
 refine call_meets F.slot_list_extend ⟨_,e,rfl⟩ F.entry_list_extend (F.args_list_extend_2 _ _)
  (AutoSeq1.list_extend_list_list_0 l its.toArray n b its2.toArray n2 hlong (by rw[List.size_toArray];omega) (by omega)) ⟨e,e2,?_⟩
 refine⟨.non,_,I.lset (its':=its++its2) hH e (by simp) (r.append r2) ?_,rfl,q⟩
 rw[List.length_append]
 omega
def ar5:R2:=fun x y H Q=>∃l k xs,x=.ref l/\y=.int k/\H l=some (.lst xs)/\ -(2^63)<=k/\k<2^63/\xs.length*k.toNat<=sizeLine/\
 ∀p,H p=none->Q (.ref p) (upd H p (.lst (List.replicate k.toNat xs).flatten))
theorem anK{α:Type}(xs:List α)(k:Nat):(List.replicate k xs).flatten.length=k*xs.length:=by
 induction k with
 |zero=>simp
 |succ k ih=>rw[List.replicate_succ,List.flatten_cons,List.length_append,ih,Nat.succ_mul,Nat.add_comm]
theorem apE:OpR X (binaryOp .Mult) ar5:=by
 intro pins s σ H x y v u Q I rx ry h
 obtain⟨l,k,xs,rfl,rfl,hH,h1,h2,hz,q⟩:=h
 cases rx
 obtain⟨t,rfl⟩:=ry
 obtain⟨z,its,n,r,hl,e⟩:=I.lstM hH
 have hlen:its.toArray.size*k.toNat<=sizeLine:=by rw[List.size_toArray,←hl];exact hz
 have hcap:¬its.toArray.size*k.toNat>(2^63-1) / 8:=by
  have:(sizeLine:Nat)<=(2^63-1) / 8:=by decide
  omega
 have hfit:¬(!Builtin.List.listFitsIndex k)=true:=by
  rw[fitsIndex_both h1 h2]
  exact Bool.false_ne_true
 have hlong:¬Builtin.List.listTooLong (its.toArray.size*k.toNat)=true:=by
  rw[ahY hlen]
  exact Bool.false_ne_true
 have hnew:List.foldl (fun x1 x2=>x1++x2) #[] (List.replicate (if its.toArray.isEmpty=true then 0 else k.toNat) its.toArray)=(List.replicate k.toNat its).flatten.toArray:=by
  have f0:∀m:Nat,List.foldl (fun x1 x2=>x1++x2) #[] (List.replicate m its.toArray)=(List.replicate m its).flatten.toArray:=fun m=>by
   have:=af7 its m []
   rw[List.nil_append] at this
   exact this
  rw[f0]
  cases its with
  |nil=>simp
  |cons a r'=>rw[if_neg (by simp)]
 refine wpAny_binaryOp_repeat_ref (T:="list") (U:="int") (by decide) ⟨_,e,rfl⟩ (fun s'=>typeIs_int s' k t) noFill_list_mul F.fills_int_mul F.slot_int_rmul repeat_list F.slot_int_index.lookup
  (call_meets F.slot_int_rmul (typeIs_int s k t) F.entry_int_rmul (F.args_int_rmul_2 _ _) (int___rmul___int_list k t l its.toArray n)
   ⟨e,rfl,⟨_,e,rfl⟩,call_meets F.slot_list_mul ⟨_,e,rfl⟩ F.entry_list_mul (F.args_list_mul_2 _ _) (AutoListH.list___mul___list_int_3 l its.toArray n k t hfit hcap hlong) ⟨e,?_⟩⟩)
 rw[hnew]
 exact⟨.ref _,_,I.lnew (t':=s.toks) (r.rep k.toNat) (by rw[anK,Nat.mul_comm];exact hz),rfl,q _ I.fresh⟩
end
section
variable{prog:Program}{w:World}{A:Around}{E:Value->Shared->Prop}{s:Shared}
end
section
variable{X:Cx}
end
end L2
namespace Att
open PySem PySem.W PySem.Calls PyProof.Rows
theorem ad0{P:Params}{h:Heap}:∀(ns:List Int) (vs:List Value),WellAll P h vs (ns.map WData.int)->IntsAre vs ns:=by
 intro ns
 induction ns with
 |nil=>
  intro vs w
  rw[List.map_nil] at w
  cases w
  exact .nil
 |cons n ns ih=>
  intro vs w
  rw[List.map_cons] at w
  cases w with
  |cons a b=>
   cases a
   exact .cons _ _ (ih _ b)
theorem aj2{l:OpenLaw}{n:Nat}(hn:l.most=some n){P:Params}{h:Heap}{args:List WData}{vals:List Value}
  (hpre:l.row.toRowW.claim.pre args=true) (hwl:WellAll P h vals args):
  ∃a vs ns,vals=[Value.ref a]/\args=[WData.list (ns.map WData.int)]/\h.get? a=some {cls:=.type "list",data:=.seq vs.toArray}/\IntsAre vs ns/\ns.length<=n:=by
 have hsh:WShape.hasAll [] args [.list .int]=true:=(pre_splitW hpre).1
 have hc:l.pre.holds [] {args:=args}=true:=(pre_splitW hpre).2
 obtain⟨d,r,rfl,h1,h2⟩:=hasAllW_cons hsh
 obtain rfl:=hasAllW_nil h2
 obtain⟨xs,rfl,h3⟩:=hasW_list h1
 obtain⟨ns,rfl⟩:=items_int h3
 have hlen:ns.length<=n:=by
  unfold OpenLaw.pre at hc
  have h4:(WTm.not (.lt (.lit (.int (n:Int))) (.len (.arg 0)))).holds [] {args:=[.list (ns.map .int)]}=true:=by
   have h4:=(holds_andW hc).1
   rw[hn] at h4
   exact h4
  have h5:=condW_of h4 (w_not (w_lt w_lit (w_len_list (w_arg rfl))))
  rw[List.length_map] at h5
  refine Nat.le_of_not_lt fun q=>?_
  have q':(n:Int)<((ns.length:Nat):Int):=by omega
  first
   |(rw[decide_eq_true q'] at h5;exact absurd h5 (by decide))
   |(simp at h5;omega)
 cases hwl with
 |cons w1 w2=>
  cases w2
  cases w1 with
  |list ho hall=>exact⟨_,_,ns,rfl,rfl,ho,ad0 ns _ hall,hlen⟩
theorem aj8(l:OpenLaw)(args:List WData):l.row.toRowW.claim.post args (.bool true) args=true:=
 postW_of (r:=l.row.toRowW) (X:=(true==true))
  (show WShape.has [] (.bool true) .bool=true by first | rfl | decide | simp[WShape.has,WShape.arms,WShape.armsAll])
  (show (WTm.eq .res (.lit (.bool true))).value [] {args:=args,res:=some (.bool true),after:=args}=some (.bool (true==true)) from w_eq_bool (w_res rfl) w_lit) rfl
theorem attach_call{l:OpenLaw}{n:Nat}{q:Program}{loose:List Str}{XP:(Str->Option Value)->Heap->Prop}{YP:World->Heap->Prop}{d:DefRec}
  (hn:l.most=some n) (hdf:d.params.defaults=[])
  (call:∀(w:World) (s₀ s₁:Shared) (mg mb:Str->Option Value) (fa:Addr) (o:Obj) (pm cd doc:Value) (a:Addr) (vs:List Value) (ns:List Int),
   Ground q loose [] XP w s₀ mg mb s₁.heap->YP w s₁.heap->
   s₁.heap.get? fa=some o->o.data=.func (docDef d.name d.params d.body d.scope pm cd doc)->s₁.heap.CodeRec cd d.name->mg d.name=some (.ref fa)->
   s₁.heap.get? a=some {cls:=.type "list",data:=.seq vs.toArray}->IntsAre vs ns->ns.length<=n->s₁.gens= #[]->
   codeAny (model l.prog w) callerA (.call (.ref fa) ⟨[.ref a],[]⟩) (fun r s'=>r=.ok (.ret (.bool true))/\OldK s₁.heap s'.heap/\s'.os=s₁.os/\AllBare s'.gens) s₁):
  WalkO q loose XP YP l.row.toRowW d [] (fun f vs=>PySem.call f vs):=by
 intro w s₀ s₁ mg mb G Y fa o pm cd doc dV kV ho hd hcd hD hmg hg args vals as hpre hlay hrd hwl hlo
 obtain rfl:dV=.none:=Dflts.none hD hdf
 obtain rfl:kV=.none:=Dflts.noKw hD
 obtain⟨a,vs,ns,rfl,rfl,hobj,hints,hlen⟩:=aj2 hn hpre hwl
 refine enter_call (codeAny_mono (call w s₀ s₁ mg mb fa o pm cd doc a vs ns G Y ho (fd_plain hd) hcd hmg hobj hints hlen hg) fun r s' hq=>?_)
 obtain⟨rfl,h2,h3,h4⟩:=hq
 exact⟨.inl ⟨.bool true,.bool true,[],rfl,fun _=>rfl,.bool true,aj8 l _,fun _=>⟨List.Pairwise.nil,fun _ hm=>(nomatch hm)⟩⟩,h2,h3,h4⟩
section
variable{prog:Program}{w:World}{A:Around}{E:Value->Shared->Prop}{s:Shared}{K:Frag}
end
end Att
namespace L2
open PySem PySem.Spec PyProof.Rows
theorem adH:∀{vs:List Value} {ns:List Int},IntsAre vs ns->Vals (ns.map V.int) vs
 |_,_,.nil=>.nil
 |_,_,.cons n t h=>.cons ⟨t,rfl⟩ (adH h)
def apW(H:Hp):Prop:=∀b,H b=none∨∃o xs,H b=some (.frz o (.lst xs))
theorem alH{P:Program}{w:World}{K:PySem.W.Frag}{mg mb:Str->Option Value}{CX:CXT}{k:Nat}{fa a:Addr}{fd:FuncData}{x:Str}{sp:Sp}{s₁:Shared}{vs:List Value}{ns:List Int}
  (KX:K.In s₁.heap) (hns:s₁.heap.Ns mainGlobals mg) (hb:s₁.heap.Ns builtinsNs mb) (hbb:∀x:Str,x≠"__name__"->mb x=bootBuiltins x) (hlim:s₁.heap.NoLimit) (hg:s₁.gens= #[])
  (ha:s₁.heap.get? a=some {cls:=.type "list",data:=.seq vs.toArray}) (hi:IntsAre vs ns) (hl:ns.length<=sizeLine) (hr:Room k callerA)
  (F:∀base:Heap,K.In base->base.Ns mainGlobals mg->FnOk P w K mg base CX k fa fd [x] sp) (hbind:∀(s:Shared) (u:Value),BindsTo s fd ⟨[u],[]⟩ [(x,u)])
  (hsp:∀H:Hp,apW H->SqL K H a (ns.map V.int)->sp [.ref a] H (fun v _=>v=.bl true) fun _ _ _=>False)
  (hCX:∀H e s',CX [] H s₁ (fun _ _ _=>False) e s'->False):
  codeAny (model P w) callerA (.call (.ref fa) ⟨[.ref a],[]⟩) (fun r s'=>r=.ok (.ret (.bool true))/\OldK s₁.heap s'.heap/\s'.os=s₁.os/\AllBare s'.gens) s₁:=by
 have rv:=adH hi
 have lenV:=hi.length
 -- from an abstract heap in which nothing but the script may be tracked
 have core:∀H:Hp,apW H->SqL K H a (ns.map V.int)->HOk P w H s₁.heap->(∀b,H b≠none->b=a)->(H a≠none->K.lookup a=none)->
   codeAny (model P w) callerA (.call (.ref fa) ⟨[.ref a],[]⟩) (fun r s'=>r=.ok (.ret (.bool true))/\OldK s₁.heap s'.heap/\s'.os=s₁.os/\AllBare s'.gens) s₁:=by
  intro H hO hS hok hA hK
  have base_of:∀{b:Addr} {o:Obj},s₁.heap.get? b=some o->H b=none->(agJ s₁.heap H).get? b=some o:=fun e n=>amQ e n
  have noA:∀{b:Addr} {o:Obj} {es:Array DictEntry} {ep:Nat},s₁.heap.get? b=some o->o.data=.dict es ep->H b=none:=fun {b o es ep} e d=>by
   cases q:H b with
   |none=>rfl
   |some u=>
    have e':b=a:=hA b (by rw[q];simp)
    subst e'
    rw[ha] at e;cases e
    have d':Data.seq vs.toArray _=Data.dict es ep:=d
    cases d'
  have nsK:∀{b:Addr} {m:Str->Option Value},s₁.heap.Ns b m->(agJ s₁.heap H).Ns b m:=fun {b m} ⟨o,es,ep,e,d,r⟩=>⟨o,es,ep,base_of e (noA e d),d,r⟩
  have hKb:K.In (agJ s₁.heap H):=fun b o e=>base_of (KX b o e) (by
   cases q:H b with
   |none=>rfl
   |some u=>
    have e':b=a:=hA b (by rw[q];simp)
    subst e'
    rw[hK (by rw[q];simp)] at e;cases e)
  have hM:Mod K mg (agJ s₁.heap H):=⟨hKb,nsK hns,⟨mb,nsK hb,hbb⟩,let ⟨mc,h1,h2⟩:=hlim;⟨mc,nsK h1,h2⟩⟩
  have e0:Env0 P w K mg (agJ s₁.heap H) callerA [] s₁ H:=⟨rfl,hM,fun b o e=>anI e,Nat.le_of_eq (akD _ _),trivial,fun b hb=>absurd (show b∈([]:List Addr) from hb) (by simp),hok,.of_eq hg⟩
  refine codeAny_mono ((F _ hKb (nsK hns)).run callerA [] s₁ H ⟨[.ref a],[]⟩ [.ref a] [.ref a] _ _ hr e0 (hbind s₁ (.ref a)) (.cons rfl .nil) (hsp H hO hS)) fun r s' h=>?_
  cases r with
  |error e=>exact (hCX H e s' h).elim
  |ok fl=>
   cases fl with
   |next=>exact False.elim h
   |brk=>exact False.elim h
   |cont=>exact False.elim h
   |ret u=>
    obtain⟨v,H',os,bare,un,hok',r',q⟩:=h
    have q':v=.bl true:=q
    subst q'
    obtain rfl:u=Value.bool true:=r'
    refine⟨rfl,OldK.of_keep fun b o e=>?_,os,bare⟩
    cases q:H b with
    |none=>exact un.keep b o e q (by intro z;exact absurd (show b∈([]:List Addr) from z) (by simp)) (by simp)
    |some u=>
     rcases hO b with z | ⟨ob,xs,z⟩
     ·rw[q] at z;cases z
     ·have z2:=un.frzs b ob _ z
      obtain⟨e1,_⟩:=hok b _ z
      obtain⟨e2,_⟩:=hok' b _ z2
      rw[e] at e1;cases e1
      exact e2
 cases hk:K.lookup a with
 |some o=>
  -- the script is one of the module's own objects
  have e:=KX a o hk
  rw[ha] at e
  cases e
  refine core (fun _=>none) (fun _=>.inl rfl) (.inr ⟨_,vs.toArray,_,hk,rfl,rfl,rfl,by rw[List.size_toArray,lenV];exact hl,by simpa using rv⟩) (fun b u z=>by have z':(none:Option HO)=some u:=z;cases z') (fun b z=>absurd rfl z) fun z=>absurd rfl z
 |none=>
  refine core (fun b=>if b=a then some (.frz {cls:=.type "list",data:=.seq vs.toArray} (.lst (ns.map V.int))) else none) (fun b=>?_) (.inl (.inr ⟨{cls:=.type "list",data:=.seq vs.toArray},if_pos rfl⟩)) (fun b u z=>?_) (fun b z=>?_) fun _=>hk
  ·by_cases hb:b=a
   ·exact .inr ⟨_,_,if_pos hb⟩
   ·exact .inl (if_neg hb)
  ·by_cases hb:b=a
   ·have z':=(if_pos hb).symm.trans z
    cases z'
    subst hb
    exact⟨ha,by rw[List.length_map];exact hl,vs,_,rv,ha⟩
   ·have z':=(if_neg hb).symm.trans z
    cases z'
  ·by_cases hb:b=a
   ·exact hb
   ·exact absurd (if_neg hb) z
theorem walk_of{l:PySem.W.OpenLaw}{n k:Nat}{q:Program}{loose:List Str}{XP:(Str->Option Value)->Heap->Prop}{YP:World->Heap->Prop}{d:DefRec}{K:Params->PySem.W.Frag}{CX:World->CXT}{sp:World->Sp}{x:Str}
  (hn:l.most=some n) (hn2:n<=sizeLine) (hdf:d.params.defaults=[]) (hr:Room k callerA)
  (hY:∀(w:World) (h:Heap),YP w h->(K w.params).In h)
  (F:∀(w:World) (mg:Str->Option Value) (fa:Addr) (h:Heap),(K w.params).In h->h.Ns mainGlobals mg->mg d.name=some (.ref fa)->
   ∃fd:FuncData,(∀(s:Shared) (u:Value),BindsTo s fd ⟨[u],[]⟩ [(x,u)])/\
    ∀base:Heap,(K w.params).In base->base.Ns mainGlobals mg->FnOk l.prog w (K w.params) mg base (CX w) k fa fd [x] (sp w))
  (hsp:∀(w:World) (H:Hp) (a:Addr) (ns:List Int),ns.length<=n->apW H->SqL (K w.params) H a (ns.map V.int)->sp w [.ref a] H (fun v _=>v=.bl true) fun _ _ _=>False)
  (hCX:∀(w:World) (H:Hp) (s:Shared) (e:Value) (s':Shared),CX w [] H s (fun _ _ _=>False) e s'->False):
  PySem.W.WalkO q loose XP YP l.row.toRowW d [] (fun f vs=>PySem.call f vs):=by
 refine Att.attach_call hn hdf fun w s₀ s₁ mg mb fa o pm cd doc a vs ns G Y ho hd hcd hmg hobj hints hlen hg=>?_
 have KX:=hY w _ Y
 obtain⟨fd,hb,hF⟩:=F w mg fa _ KX G.T.g hmg
 exact alH KX G.T.g G.T.b G.T.builtins G.T.nolimit hg hobj hints (Nat.le_trans hlen hn2) hr hF hb (fun H hO hS=>hsp w H a ns hlen hO hS) fun H e s'=>hCX w H s₁ e s'
end L2
/- THE LAST THEOREM (shape;LID,My.* are yours):
 My.Adr:a structure of the addresses that your layer names (classes,functions);My.Txt K t:a structure (Prop) of the equations over K;
 My.txt_mk:{K} {implicit addresses ..} (e1:nsIn K mainGlobals "law"=some (some (.ref f))) (e2:K.lookup f=some ⟨oc,od,.func (fnOf "law" "law" params body scope dV kV doc pm an cdv ct),sl⟩) (e3:codeIn K cdv "law"=true) .. :∃t,My.Txt K t
set_option maxRecDepth 100000 in
set_option maxHeartbeats 0 in
theorem PySem.Challenge.cw_LID_holds : PySem.Challenge.rw_LID.Holds := by
 w_on;o_law;k_head;(case hw=>w_witness2)
 k_fill
 refine L2.walk_of (l:=PySem.Challenge.rw_LID) (n:=63) (k:=40) (x:="script") (CX:=fun w=>..) (sp:=fun _=>My.sp_law) rfl (by decide) rfl ⟨rfl,by decide,by decide⟩ (fun w h Y=>PySem.W.kIn_of Y) ?F ?S ?C
 case F=>
  intro w mg fa h KX G hmg
  have T:∃t,My.Txt (L2.KOf KX) t:=by
   dsimp only[L2.KOf]                          -- K must stand as «<heap const> w.params» for k_is
   refine' My.txt_mk ?e1 ?e2 ?e3 ..
   (case e1=>PySem.W.k_is)                    -- in the order:a name->its address->its object->its parts
   (case e2=>PySem.W.k_is)
   ..
  obtain⟨t,T⟩:=T
  have e0:=hmg.symm.trans (PySem.W.mg_of KX G T.law)
  cases e0                                       -- fa is the law's own address
  exact⟨_,fun s u=>.of_eq rfl,fun base kb nb=>My.law_fn T kb nb⟩     -- if «.of_eq rfl» comes too early:refine' ⟨_,?b,fun base kb nb=>My.law_fn T kb nb⟩;exact fun s u=>.of_eq rfl
 case S=>exact fun w H a ns hl hO hS=>..
 case C=>exact ..
(the tactic k_is has no namespace:write k_is) -/
namespace L2
open PySem PySem.Spec PyProof.Rows
def abR(s:Stmt):Arguments:=match s with
 |.FunctionDef _ a _ _ _ _ _ _ _ _=>a
 |_=>{posonlyargs:=[],args:=[],vararg:=none,kwonlyargs:=[],kw_defaults:=[],kwarg:=none,defaults:=[]}
def aaX(s:Stmt):List Stmt:=match s with
 |.FunctionDef _ _ b _ _ _ _ _ _ _=>b
 |_=>[]
def aaC(s:Stmt):Scope:=match s with
 |.FunctionDef _ _ _ _ _ _ sc _ _ _=>sc
 |_=>{kind:=.function,names:=[],isGenerator:=false,isCoroutine:=false}
abbrev CX0:CXT:=fun _ _ _ _ _ _=>False
abbrev E0:XK:=fun _ _ _=>False
theorem as1{X:Cx}:aiO CX0 X E0:=fun _ _ _ _ _ _ _ h=>h.elim
structure Fun(K:PySem.W.Frag)(x qual:Str)(st:Stmt)(f:Addr)(fd:FuncData):Prop where
 ex:∃(oc:Value) (od:Option Addr) (kV doc pm:Value) (an:Option Addr) (cdv ct:Value) (osl:Array (Option Value)),
  fd=PySem.W.fnOf x qual (abR st) (aaX st) (aaC st) .none kV doc pm an cdv ct/\K.lookup f=some ⟨oc,od,.func fd,osl⟩/\PySem.W.codeIn K cdv qual=true
 kp:PySem.W.keepIn K (.ref f)=true
section
variable{P:Program}{w:World}{K:PySem.W.Frag}{mg:Str->Option Value}{base:Heap}
theorem Fun.ok{x qual:Str}{st:Stmt}{f:Addr}{fd:FuncData}{N ps:List Str}{k:Nat}{sp:Sp}(F:Fun K x qual st f fd)(S:FnScope N ps (aaC st))(len:∀vs H Q E,sp vs H Q E->vs.length=ps.length)
  (hbody:∀(cdv:Value) (A:Around) (outer:List Env) (s:Shared) (H:Hp) (vs:List V) (Q:VK) (E:XK),Room k (A.deeper (envOfC qual (aaC st) s.heap.objs.size f cdv))->sp vs H Q E->
   ∃t,PSs (ag1 CX0 P w K mg base N qual (aaC st) f cdv A outer s H E).nox (aaX st) t/\t {nx:=fun _ H'=>Q .non H',rt:=Q} (ab2 N vs) H):FnOk P w K mg base CX0 (k+1) f fd ps sp:=by
 obtain⟨oc,od,kV,doc,pm,an,cdv,ct,osl,rfl,lk,hcd⟩:=F.ex
 refine as4 lk hcd S len fun A outer s H vs Q E hr hsp=>?_
 obtain⟨t,h,q⟩:=hbody cdv A outer s H vs Q E hr hsp
 exact⟨t,h.nox,q⟩
theorem Fun.binds{x qual:Str}{st:Stmt}{f:Addr}{fd:FuncData}{ps:List Str}(F:Fun K x qual st f fd)
  (h:∀(kV doc pm:Value) (an:Option Addr) (cdv ct:Value) (us:List Value),us.length=ps.length->bindArgs (PySem.W.fnOf x qual (abR st) (aaX st) (aaC st) .none kV doc pm an cdv ct) ⟨us,[]⟩=pure (ps.zip us)):Binds K fd ps []:=by
 obtain⟨oc,od,kV,doc,pm,an,cdv,ct,osl,rfl,lk,hcd⟩:=F.ex
 exact .all (h kV doc pm an cdv ct)
theorem alC{x qual:Str}{st:Stmt}{f:Addr}{oc:Value}{od an:Option Addr}{osl:Array (Option Value)}{kV doc pm cdv ct:Value}(l:K.lookup f=some ⟨oc,od,.func (PySem.W.fnOf x qual (abR st) (aaX st) (aaC st) .none kV doc pm an cdv ct),osl⟩)
  (c:PySem.W.codeIn K cdv qual=true) (k:PySem.W.keepIn K (.ref f)=true):Fun K x qual st f (PySem.W.fnOf x qual (abR st) (aaX st) (aaC st) .none kV doc pm an cdv ct):=⟨⟨oc,od,kV,doc,pm,an,cdv,ct,osl,rfl,l,c⟩,k⟩
end
section
variable{X:Cx}
end
theorem adY{A B:Prop}(h:B):if false=true then A else B:=by
 rw[if_neg Bool.false_ne_true]
 exact h
theorem aiD{A B:Prop}(h:A):if true=true then A else B:=by
 rw[if_pos rfl]
 exact h
theorem asA{c A B:Prop}[Decidable c](h1:c->A)(h2:¬c->B):if c then A else B:=by
 by_cases h:c
 ·rw[if_pos h]
  exact h1 h
 ·rw[if_neg h]
  exact h2 h
def Same(H H':Hp):Prop:=∀b o,H b=some o->H' b=some o
theorem Same.refl(H:Hp):Same H H:=fun _ _ h=>h
theorem Same.trans{H H1 H2:Hp}(a:Same H H1)(b:Same H1 H2):Same H H2:=fun c o h=>b c o (a c o h)
theorem Same.free{H H':Hp}(e:Same H H'){l:Addr}(h:H' l=Option.none):H l=Option.none:=by
 cases q:H l with
 |none=>rfl
 |some o=>
  rw[e l o q] at h
  cases h
theorem Same.seq{K:PySem.W.Frag}{H H':Hp}{a:Addr}{xs:List V}(e:Same H H')(h:SqL K H a xs):SqL K H' a xs:=by
 rcases h with (h | ⟨o,h⟩) | h
 ·exact .inl (.inl (e _ _ h))
 ·exact .inl (.inr ⟨o,e _ _ h⟩)
 ·exact .inr h
section
variable{X:Cx}
end
structure Df(P:Program)(w:World)(K:PySem.W.Frag)(mg:Str->Option Value)(base:Heap)(x:Str)(k:Nat)(ps:List Str)(sp:Sp):Prop where
 ex:∃(f:Addr) (fd:FuncData),FnOk P w K mg base CX0 k f fd ps sp/\Binds K fd ps []/\mg x=some (.ref f)/\PySem.W.keepIn K (.ref f)=true
structure Fn(K:PySem.W.Frag)(mg:Str->Option Value)(x:Str)(st:Stmt)(ps:List Str):Prop where
 ex:∃(f:Addr) (fd:FuncData),Fun K x x st f fd/\Binds K fd ps []/\mg x=some (.ref f)
section
variable{P:Program}{w:World}{K:PySem.W.Frag}{mg:Str->Option Value}{base:Heap}{x:Str}{st:Stmt}{ps N:List Str}{k:Nat}{sp:Sp}
theorem Fn.df(F:Fn K mg x st ps)(S:FnScope N ps (aaC st))(len:∀vs H Q E,sp vs H Q E->vs.length=ps.length)
  (hbody:∀(f:Addr) (cdv:Value) (A:Around) (outer:List Env) (s:Shared) (H:Hp) (vs:List V) (Q:VK) (E:XK),Room k (A.deeper (envOfC x (aaC st) s.heap.objs.size f cdv))->sp vs H Q E->
   ∃t,PSs (ag1 CX0 P w K mg base N x (aaC st) f cdv A outer s H E).nox (aaX st) t/\t {nx:=fun _ H'=>Q .non H',rt:=Q} (ab2 N vs) H):Df P w K mg base x (k+1) ps sp:=by
 obtain⟨f,fd,F1,hb,hm⟩:=F.ex
 exact⟨⟨f,fd,F1.ok S len (hbody f),hb,hm,F1.kp⟩⟩
theorem aaT{h:Heap}{f:Addr}{oc:Value}{od an:Option Addr}{osl:Array (Option Value)}{kV doc pm cdv ct:Value}(X:K.In h)(G:h.Ns mainGlobals mg)
  (a:PySem.W.nsIn K mainGlobals x=some (some (.ref f))) (l:K.lookup f=some ⟨oc,od,.func (PySem.W.fnOf x x (abR st) (aaX st) (aaC st) .none kV doc pm an cdv ct),osl⟩)
  (c:PySem.W.codeIn K cdv x=true) (k:PySem.W.keepIn K (.ref f)=true)
  (hb:∀(kV doc pm:Value) (an:Option Addr) (cdv ct:Value) (us:List Value),us.length=ps.length->bindArgs (PySem.W.fnOf x x (abR st) (aaX st) (aaC st) .none kV doc pm an cdv ct) ⟨us,[]⟩=pure (ps.zip us)):Fn K mg x st ps:=by
 have F:=alC (st:=st) l c k
 exact⟨⟨f,_,F,F.binds (ps:=ps) hb,PySem.W.mg_of X G a⟩⟩
end
section
variable{X:Cx}
theorem ak1{x:Str}{k k':Nat}{ps:List Str}{sp:Sp}{e:Expr}{es:List Expr}{t:TA}{p pos:Pos}(D:Df X.prog X.w X.K X.mg X.base x k ps sp)(hr:Room k' X.A)(ha:PA X (e::es) t)(hk:k<=k':=by decide)(hg:Gl X x:=by rfl)
  (hdb:(x==("__debug__":Str))=false:=by decide) (he:starEach (e::es) X.env=(false,eval e X.env)::starEach es X.env:=by rfl) (hpl:(backTo pos (starEach es X.env)).any (·.1)=false:=by rfl):
  PE X (.Call (.Name x p) (e::es) [] pos) (ai0 sp [] E0 t):=by
 obtain⟨f,fd,F,hb,hm,kp⟩:=D.ex
 exact anP F (hr.mono hk) hg hm kp hb .nil as1 ha hdb he hpl
end
theorem aaB{H:Hp}{p:Addr}(h:H p=none)(o:HO):Same H (upd H p o):=fun b u q=>by rw[aaF (aaE q h)];exact q
theorem int_eq{a b:Int}:(V.int a=V.int b)↔a=b:=⟨fun h=>V.int.inj h,fun h=>by rw[h]⟩
theorem ifNI{a b:Int}{A B:Prop}(h1:¬a=b->A)(h2:a=b->B):if (!decide (V.int a=V.int b))=true then A else B:=by
 by_cases e:a=b
 ·rw[decide_eq_true (int_eq.mpr e)];exact adY (h2 e)
 ·rw[decide_eq_false fun q=>e (int_eq.mp q)];exact aiD (h1 e)
theorem ifD{c:Prop}[Decidable c]{A B:Prop}(h1:c->A)(h2:¬c->B):if decide c=true then A else B:=
 asA (fun q=>h1 (of_decide_eq_true q)) (fun q=>h2 fun e=>q (decide_eq_true e))
def ahU:Expr->Option Int
 |.Constant (.int i) _ _=>some i
 |_=>none
def aoT(is:List Int):TA:=fun _ H Q=>Q (is.map V.int) H
theorem ajT{X:Cx}:∀{es:List Expr} (is:List Int),es.map ahU=is.map some->PA X es (aoT is)
 |[],[],_=>adM
 |[],_::_,h=>by cases h
 |_::_,[],h=>by cases h
 |e::es,i::is,h=>by
  have h1:ahU e=some i:=(List.cons.inj h).1
  have h2:es.map ahU=is.map some:=(List.cons.inj h).2
  obtain⟨j,pos,rfl⟩:∃j pos,e=.Constant (.int i) j pos:=by
   unfold ahU at h1
   split at h1
   ·cases h1
    exact⟨_,_,rfl⟩
   ·cases h1
  exact acG alR (ajT is h2)
structure Clos(X:Cx)(scope:Scope)(cl:List (Str×Addr)):Prop where
 is:closureFor scope X.env=pure cl
 sub:∀y c,cl.lookup y=some c->X.env.cells.lookup y=some c
 has:∀y,scope.names.lookup y=some .free->∃c,cl.lookup y=some c
 nocell:∀y∈scope.names,y.2≠ .cell
 kind:scope.kind=.function
 names:∀y∈scope.names,y.2=.local->scope.names.lookup y.1=some .local
def aaD(X:Cx)(N:List Str)(scope:Scope)(cl:List (Str×Addr))(C:Addr)(ex:List Addr)(pins:List (Addr×Obj))(s:Shared)(H:Hp):Cx:=
 {X with N:=N,s₀:=s,H₀:=H,env:=compEnvC scope cl C X.env,outer:=X.stack,stack:=X.stack,ex:=ex,fn:=fun _=>false,pn:=X.pn++pins,xe:=fun _ _=>False}
def aaH(js:List Nat)(σ:St):St:=js.map fun j=>(σ[j]?).getD none
def ajF(ifs:List Expr)(env:Env):Sem Bool:=
 forIn ifs true fun c r=>if r=true then (do let ok ←isTrue c env (eval c env);pure (ForInStep.yield ok)) else pure (ForInStep.yield r)
def PF(X:Cx)(ifs:List Expr)(t:TT):Prop:=
 ∀(pins:List (Addr×Obj)) (s:Shared) (σ:St) (H:Hp) (Q:Bool->Hp->Prop),Inv X pins σ H s->t σ H Q->
  wpAny (model X.prog X.w) X.A (ajF ifs X.env) (TP X pins σ Q) X.xe s
def ar0:TT:=fun _ H Q=>Q true H
theorem ap8{X:Cx}:PF X [] ar0:=fun _ _ _ H _ I h=>wpAny_tests_nil ⟨H,I,h⟩
theorem aqM{X:Cx}{c:Expr}{t:TT}(h:PT X c t):PF X [c] t:=fun pins s σ H Q I q=>wpAny_tests_one (h pins s σ H Q I q)
def ahO(J:It)(js:List Nat)(σ:St)(tt:TT)(te:TE)(Q:VK)(H1:Hp):Prop:=∀D,H1 D=none->∃W:Nat->Nat->Hp->Prop,(∃m,W 0 m (upd H1 D (.lst [])))/\∀i m H2,W i m H2->
 (J.stop i H2/\Q (.ref D) H2)∨(J.go i H2/\∀v H3,J.yld i H2 v H3->tt (some v::aaH js σ) H3 fun b H4=>if b=true then
  te (some v::aaH js σ) H4 fun y H5=>∃ys,H5 D=some (.lst ys)/\ys.length<sizeLine/\∃m',m'<m/\W (i+1) m' (upd H5 D (.lst (ys++[y])))
  else ∃m',m'<m/\W (i+1) m' H4)
def alM(wi:TI)(js:List Nat)(tt:TT)(te:TE):TE:=fun σ H Q=>wi σ H fun J H1=>ahO J js σ tt te Q H1
def adL(env:Env)(n:Str)(k:NameKind):NameKind:=if (k==NameKind.free&&env.scope.kind== .function&&env.kindOf n==some .cell) then .cell else k
theorem an5{env:Env}{n:Str}{k:NameKind}:(if (k==NameKind.free&&env.scope.kind== .function&&env.kindOf n==some .cell) then (n,NameKind.cell) else (n,k))=(n,adL env n k):=by
 unfold adL
 split<;>rfl
theorem abW{env:Env}:∀(names:List (Str×NameKind)) (x:Str),(relabel {kind:=.function,names:=names,isGenerator:=false,isCoroutine:=false} env).names.lookup x=(names.lookup x).map (adL env x)
 |[],_=>rfl
 |(n,k)::r,x=>by
  have ih:=abW (env:=env) r x
  unfold relabel at ih ⊢
  dsimp only at ih ⊢
  rw[List.map_cons]
  dsimp only
  rw[an5,List.lookup_cons,List.lookup_cons,ih]
  cases hx:x==n with
  |true=>
   have e:x=n:=by simpa using hx
   rw[e]
   rfl
  |false=>rfl
theorem abB{env:Env}(scope:Scope)(x:Str):(relabel scope env).names.lookup x=(scope.names.lookup x).map (adL env x):=abW scope.names x
theorem af3{env:Env}{x:Str}{o:Option NameKind}(hc:o≠some .cell)(h:o.map (adL env x)=some .cell∨o.map (adL env x)=some .free):o=some .free:=by
 cases o with
 |none=>rcases h with h | h<;>cases h
 |some k=>
  by_cases e:k=.free
  ·rw[e]
  ·have z:adL env x k=k:=by
    unfold adL
    have e':(k==NameKind.free)=false:=by simpa using e
    rw[e']
    rfl
   rw[Option.map_some,z] at h
   rcases h with h | h
   ·exact absurd h hc
   ·exact h
theorem abM{env:Env}{scope:Scope}{x:Str}(h:scope.names.lookup x=some .free):(relabel scope env).names.lookup x=some .cell∨(relabel scope env).names.lookup x=some .free:=by
 rw[abB,h,Option.map_some]
 unfold adL
 split
 ·exact .inl rfl
 ·exact .inr rfl
section
variable{X:Cx}{elt iter:Expr}{x:Str}{px pos:Pos}{ifs:List Expr}{scope:Scope}{cl:List (Str×Addr)}{N':List Str}{js:List Nat}{tt:TT}{te:TE}
theorem aiC{pins:List (Addr×Obj)}{σ:St}{H:Hp}{s s4:Shared}{fp:List Addr}{C:Addr}{m4:Str->Option Value}(hcl:Clos X scope cl)(hN:js.map (fun j=>X.N[j]?)=N'.map some)
  (hk:N'.all (fun y=>(X.env.kindOf y==some .cell)||(X.env.kindOf y==some .free))=true) (hf:N'.all (fun y=>scope.names.lookup y==some .free)=true)
  (I:Inv X pins σ H s) (hfp:∀b∈fp,abF X pins H b/\b<s.heap.objs.size) (hC:C=s.heap.objs.size) (ho:s4.os=s.os) (hg:s4.gens=s.gens) (hkeep:∀b o,s.heap.get? b=some o->s4.heap.get? b=some o) (hn:s4.heap.Ns C m4):
  Inv (aaD X (x::N') scope cl C fp pins s H) [] (none::aaH js σ) H s4:=by
 have hne:∀b o,s.heap.get? b=some o->b≠C:=fun b o e=>by rw[hC];exact Nat.ne_of_lt (Heap.lt_size e)
 refine⟨⟨I.ok.mod,hcl.kind,I.ok.glob,I.ok.blt,Nat.le_of_eq hC.symm,fun y z c h1 h2=>I.ok.inj y z c (hcl.sub y c h1) (hcl.sub z c h2),fun y hy=>hcl.has y (af3 (fun z=>hcl.nocell _ (PySem.mem_of_lookup z) rfl) (by rw[←abB];exact hy)),fun y c h _=>(nomatch h),I.ok.hd,I.ok.frames,.inl rfl,fun b hb=>⟨?_,fun y c e=>(hfp b hb).1.2.2.2.2.1 y c (hcl.sub y c e)⟩,
  I.bs,Nat.le_trans I.ok.bsz I.sz,fun b o e hb=>?_,fun b hb hz=>?_,I.stack,I.stkFree⟩,ho,by rw[hg];exact I.bare,Un.kept hkeep,⟨m4,hn,fun i y v h1 h2 h3=>?_⟩,fun y c e=>?_,?_,fun y c e=>I.freeC y c (hcl.sub y c e),fun p hp=>?_,I.hok.kept hkeep,?_⟩
 ·rw[hC];exact Nat.ne_of_lt (hfp b hb).2
 ·rcases (hfp b hb).1.2.2.2.1 with z | z
  ·exact I.ok.noex b o e z
  ·exact absurd (Nat.lt_of_lt_of_le (Heap.lt_size e) (Nat.le_trans I.ok.bsz z)) (Nat.lt_irrefl _)
 ·rcases List.mem_cons.mp (I.stkSub b hz) with z | z
  ·exact (hfp b hb).1.2.1 z
  ·exact (hfp b hb).1.2.2.1 z
 ·match i,h1,h2 with
  |0,_,h2=>exact nomatch h2
  |i+1,h1,h2=>
   have h1:N'[i]? =some y:=h1
   have h2:(aaH js σ)[i]? =some (some v):=h2
   have hy:y∈N':=List.mem_of_getElem? h1
   have q:(js.map (fun j=>X.N[j]?))[i]? =some (some y):=by rw[hN,List.getElem?_map,h1];rfl
   rw[List.getElem?_map] at q
   cases ej:js[i]? with
   |none=>rw[ej] at q;cases q
   |some j=>
    rw[ej] at q
    have q:X.N[j]? =some y:=Option.some.inj q
    unfold aaH at h2
    rw[List.getElem?_map,ej] at h2
    have h2:(σ[j]?).getD none=some v:=Option.some.inj h2
    have h2:σ[j]? =some (some v):=by
     cases e:σ[j]? with
     |none=>rw[e] at h2;cases h2
     |some o=>rw[e] at h2;exact congrArg some h2
    have kk:=List.all_eq_true.mp hk y hy
    have kk:X.env.kindOf y=some .cell∨X.env.kindOf y=some .free:=by simpa using kk
    have ff:=List.all_eq_true.mp hf y hy
    have ff:scope.names.lookup y=some .free:=by simpa using ff
    obtain⟨m,_,hl⟩:=I.loc
    obtain⟨u,r,l⟩:=hl j y v q h2 (by rcases kk with z | z;exact .inr (.inl z);exact .inr (.inr z))
    refine⟨u,r,.inr ⟨abM ff,?_⟩⟩
    obtain⟨c,hc⟩:=hcl.has y ff
    rcases l with ⟨z,_⟩ | ⟨_,c',e',cell⟩
    ·rcases kk with k | k<;>(rw[k] at z;cases z)
    ·rw[hcl.sub y c hc] at e'
     cases e'
     exact⟨c,hc,cell.keeps hkeep⟩
 ·obtain⟨v,q⟩:=I.cell y c (hcl.sub y c e)
  exact⟨v,q.keeps hkeep⟩
 ·show H C=none
  rw[hC]
  exact I.hok.fresh (Nat.le_refl _)
 ·have hp:p∈X.pn++pins:=by
   have hp:p∈(X.pn++pins)++[]:=hp
   rwa [List.append_nil] at hp
  obtain⟨e,n,ne,nf,d⟩:=I.pin p hp
  refine⟨hkeep _ _ e,n,hne _ _ e,fun z=>?_,d⟩
  rcases List.mem_cons.mp (I.stkSub p.1 z) with z | z
  ·exact ne z
  ·exact nf z
 ·show (aaH js σ).length+1=N'.length+1
  have q:=congrArg List.length hN
  rw[List.length_map,List.length_map] at q
  unfold aaH
  rw[List.length_map,q]
end
theorem acV{prog:Program}{w:World}{A:Around}{R:Result->Shared->Prop}{s:Shared}{elt tg iter:Expr}{ifs:List Expr}{scope:Scope}{pos:Pos}{it acc:Value}{env:Env}{EN:Value->Shared->Prop}
  (hEN:EN=notedBy (model prog w) A env fun e s'=>R (.error e) s') (B:Nat->Shared->Prop)
  (aaU:∀n s,B n s->wpAny (model prog w) A (pyNext it) (fun r s₁=>match r with
   |none=>R (.ok .next) s₁
   |some v=>wpAny (model prog w) A (letOwnedTupleGo tg it v) (fun _ s₂=>wpAny (model prog w) A (assign tg env v) (fun _ s₃=>
     wpAny (model prog w) A (ajF ifs env) (fun ok s₄=>
      if ok=true then wpAny (model prog w) A (eval elt env) (fun z s₅=>wpAny (model prog w) A (call (.builtin "list.append") [acc,z]) (fun _ s₆=>∃m,m<n/\B m s₆) EN s₅) EN s₄
      else ∃m,m<n/\B m s₄) EN s₃) EN s₂) EN s₁) EN s) (n:Nat) (h:B n s):
  codeAny (model prog w) A (.compLoop (.ListComp elt [⟨tg,iter,ifs,0⟩] scope pos) 0 it acc env) R s:=by
 subst hEN
 refine codeAny_loop rfl B (fun n s hI=>?_) n h
 refine wpAny_noted (m:=compTurn (.ListComp elt [⟨tg,iter,ifs,0⟩] scope pos) 0 it acc env) ?_
 rw[compTurn_list]
 refine wpAny_bind (wpAny_standAt (wpAny_bind (wpAny_mono (aaU n s hI) (fun r s₁ h₁=>?_) fun _ _ z=>z)))
 cases r with
 |none=>exact wpAny_pure h₁
 |some v=>
  refine wpAny_bind (wpAny_mono h₁ (fun _ s₂ h₂=>?_) fun _ _ z=>z)
  refine wpAny_bind (wpAny_mono h₂ (fun _ s₃ h₃=>?_) fun _ _ z=>z)
  refine wpAny_bind (wpAny_mono h₃ (fun ok s₄ h₄=>?_) fun _ _ z=>z)
  cases ok with
  |false=>exact wpAny_pure ⟨rfl,h₄⟩
  |true=>
   refine wpAny_bind (wpAny_bind (wpAny_mono h₄ (fun z s₅ h₅=>?_) fun _ _ q=>q))
   exact wpAny_bind (wpAny_mono h₅ (fun _ s₆ h₆=>wpAny_pure (wpAny_pure ⟨rfl,h₆⟩)) fun _ _ q=>q)
section
variable{X:Cx}{elt iter:Expr}{x:Str}{px pos:Pos}{ifs:List Expr}{scope:Scope}{cl:List (Str×Addr)}{N':List Str}{js:List Nat}{tt:TT}{te:TE}
theorem al5{pins:List (Addr×Obj)}{σ σ':St}{H H':Hp}{s s':Shared}{fp:List Addr}{C:Addr}(I:Inv X pins σ H s)(hfp:∀b∈fp,abF X pins H b)(J:Inv (aaD X (x::N') scope cl C fp pins s H) [] σ' H' s'):Inv X pins σ H' s':=
 I.call' (ch:=fp) J.os J.base J.hok J.bare fun b hb=>⟨(hfp b hb).2.2.2.1,(hfp b hb).2.1,(hfp b hb).2.2.2.2.1,(hfp b hb).2.2.2.2.2⟩
theorem aeH{pins:List (Addr×Obj)}{σ:St}{H:Hp}{s:Shared}{Q:VK}{RR:Value->Addr->Result->Shared->Prop}{J:It}{fp:List Addr}{it:Addr}{tn:Nat->Heap->Prop}
  (hcl:Clos X scope cl) (hx:scope.names.lookup x=some .local) (hnd:(x::N').Nodup) (hN:js.map (fun j=>X.N[j]?)=N'.map some)
  (hk:N'.all (fun y=>(X.env.kindOf y==some .cell)||(X.env.kindOf y==some .free))=true) (hf:N'.all (fun y=>scope.names.lookup y==some .free)=true) (hc:X.calm=true)
  (ht:∀(C:Addr) (ex:List Addr) (pins:List (Addr×Obj)) (s:Shared) (H:Hp),PF (aaD X (x::N') scope cl C ex pins s H) ifs tt)
  (he:∀(C:Addr) (ex:List Addr) (pins:List (Addr×Obj)) (s:Shared) (H:Hp),PE (aaD X (x::N') scope cl C ex pins s H) elt te)
  (I:Inv X pins σ H s) (T:Turn X.prog X.w X.K (.Name x px) J fp it tn) (st:tn 0 s.heap) (hfp:∀b∈fp,abF X pins H b)
  (q:∀D,H D=none->∃W:Nat->Nat->Hp->Prop,(∃m,W 0 m (upd H D (.lst [])))/\∀i m H2,W i m H2->
   (J.stop i H2/\Q (.ref D) H2)∨(J.go i H2/\∀v H3,J.yld i H2 v H3->tt (some v::aaH js σ) H3 fun b H4=>if b=true then
    te (some v::aaH js σ) H4 fun y H5=>∃ys,H5 D=some (.lst ys)/\ys.length<sizeLine/\∃m',m'<m/\W (i+1) m' (upd H5 D (.lst (ys++[y])))
    else ∃m',m'<m/\W (i+1) m' H4))
  (hRR:∀(D C:Addr) (s':Shared) (H':Hp) (m:Str->Option Value),Inv X pins σ H' s'->H' C=none->C≠X.env.locals->X.s₀.heap.objs.size<=C->(∀y c,X.env.cells.lookup y=some c->c≠C)->(∀p∈X.pn++pins,p.1≠C)->s'.heap.Ns C m->Q (.ref D) H'->RR (.ref D) C (.ok .next) s'):
  wpAny (model X.prog X.w) X.A (newList []) (fun acc s₃=>wpAny (model X.prog X.w) X.A (newFunctionEnv scope X.env.globals cl [] X.env.qual none .none (some X.env)) (fun cenv s₄=>
   codeAny (model X.prog X.w) X.A (.compStart (.ListComp elt [⟨.Name x px,iter,ifs,0⟩] scope pos) 0 (.ref it) acc {cenv with scope:=relabel scope X.env}) (RR acc cenv.locals) s₄) X.xe s₃) X.xe s:=by
 refine wpAny_newObj_type ?_
 have hD:H s.heap.objs.size=none:=I.hok.fresh (Nat.le_refl _)
 have I3:Inv X pins σ (upd H s.heap.objs.size (.lst [])) {s with heap:=s.heap.push {cls:=.type "list",dict:=none,data:=.seq ([]:List Value).toArray} }:=I.lnew (its:=[]) (t':=s.toks) .nil (Nat.zero_le _)
 have hfp3:∀b∈fp,abF X pins (upd H s.heap.objs.size (.lst [])) b/\b<(s.heap.push {cls:=.type "list",dict:=none,data:=.seq ([]:List Value).toArray}).objs.size:=fun b hb=>by
  obtain⟨o,ho,_⟩:=T.obj 0 _ st b hb
  have hlt:=Heap.lt_size ho
  obtain⟨f0,f1⟩:=hfp b hb
  exact⟨⟨by rw[aaF (Nat.ne_of_lt hlt)];exact f0,f1⟩,by rw[Heap.size_push];exact Nat.lt_succ_of_lt hlt⟩
 have st3:tn 0 (s.heap.push {cls:=.type "list",dict:=none,data:=.seq ([]:List Value).toArray}):=T.keep _ _ _ st fun b _ o e=>Heap.get?_push_of_some _ e
 obtain⟨W,⟨m0,w0⟩,aaU⟩:=q s.heap.objs.size hD
 generalize hs3:({s with heap:=s.heap.push {cls:=.type "list",dict:=none,data:=.seq ([]:List Value).toArray} }:Shared)=s3 at I3 ⊢
 have hh3:s.heap.push {cls:=.type "list",dict:=none,data:=.seq ([]:List Value).toArray}=s3.heap:=by rw[←hs3]
 rw[hh3] at hfp3 st3
 generalize s.heap.objs.size=D at I3 hfp3 w0 aaU hD ⊢
 generalize upd H D (.lst [])=H3 at I3 hfp3 w0
 refine wpAny_newFunctionEnv hcl.nocell (by intro y hy;simp at hy) (fun h₁ hns₁ hsb₁=>?_) hcl.kind
 have hkeep:∀b o,s3.heap.get? b=some o->h₁.get? b=some o:=fun b o e=>hsb₁.extBut b o (Nat.ne_of_lt (Heap.lt_size e)) (Heap.get?_push_of_some _ e)
 have J4:Inv (aaD X (x::N') scope cl s3.heap.objs.size fp pins s3 H3) [] (none::aaH js σ) H3 {s3 with heap:=h₁,toks:=s3.toks+([]:List (Str×Value)).length}:=
  aiC hcl hN hk hf I3 hfp3 rfl rfl rfl hkeep hns₁
 have st4:tn 0 h₁:=T.keep _ _ _ st3 fun b _ o e=>hkeep b o e
 have cell':∀{s':Shared} {σ':St} {H':Hp},Inv (aaD X (x::N') scope cl s3.heap.objs.size fp pins s3 H3) [] σ' H' s'->Q (.ref D) H'->RR (.ref D) s3.heap.objs.size (.ok .next) s':=fun {s' σ' H'} J hq=>by
  obtain⟨m,hn,_⟩:=J.loc
  refine hRR D _ s' H' m (al5 I3 (fun b hb=>(hfp3 b hb).1) J) J.free (Nat.ne_of_gt I3.lt) I3.sz (fun y c e z=>?_) (fun p hp z=>?_) hn hq
  ·obtain⟨v,k⟩:=I3.cell y c e
   exact absurd k.lt (by rw[z];exact Nat.lt_irrefl _)
  ·exact absurd (Heap.lt_size (I3.pin p hp).1) (by rw[z];exact Nat.lt_irrefl _)
 have fpX:∀{H':Hp},(∀b∈fp,H' b=none)->∀b∈fp,abF (aaD X (x::N') scope cl s3.heap.objs.size fp pins s3 H3) [] H' b:=fun {H'} hn b hb=>by
  obtain⟨⟨f0,f1,f2,f3,f4,f5⟩,flt⟩:=hfp3 b hb
  refine⟨hn b hb,Nat.ne_of_lt flt,fun z=>?_,.inl hb,fun y c e=>f4 y c (hcl.sub y c e),fun p hp=>?_⟩
  ·rcases List.mem_cons.mp (I3.stkSub b z) with z | z
   ·exact f1 z
   ·exact f2 z
  ·have hp:p∈(X.pn++pins)++[]:=hp
   rw[List.append_nil] at hp
   exact f5 p hp
 have loop:∀s₄:Shared,s₄={s3 with heap:=h₁,toks:=s3.toks+([]:List (Str×Value)).length}->
   codeAny (model X.prog X.w) X.A (.compLoop (.ListComp elt [⟨.Name x px,iter,ifs,0⟩] scope pos) 0 (.ref it) (.ref D) (compEnvC scope cl s3.heap.objs.size X.env)) (RR (.ref D) s3.heap.objs.size) s₄:=by
  rintro s₄ rfl
  refine acV rfl (fun n s'=>∃i σ0 H',Inv (aaD X (x::N') scope cl s3.heap.objs.size fp pins s3 H3) [] (σ0::aaH js σ) H' s'/\tn i s'.heap/\(∀b∈fp,H' b=none)/\W i n H') ?_ m0 ⟨0,none,H3,J4,st4,fun b hb=>(hfp3 b hb).1.1,w0⟩
  rintro n s5 ⟨i,σ0,H5,J5,st5,fr5,w5⟩
  rcases aaU i n H5 w5 with ⟨stop,qn⟩ | ⟨go,step⟩
  ·refine wpAny_mono (T.done (aaD X (x::N') scope cl s3.heap.objs.size fp pins s3 H3) rfl rfl rfl hc i [] s5 _ H5 (fun _ _=>False) J5 (fpX fr5) st5 stop) (fun r s6 ⟨hr,J6⟩=>?_) fun _ _ z=>z.elim
   subst hr
   exact cell' J6 qn
  ·refine wpAny_mono (T.item (aaD X (x::N') scope cl s3.heap.objs.size fp pins s3 H3) rfl rfl rfl hc i [] s5 _ H5 (fun _ _=>False) J5 (fpX fr5) st5 go) (fun r s6 ⟨u,hr,h6⟩=>?_) fun _ _ z=>z.elim
   subst hr
   refine wpAny_mono h6 (fun _ s6' h6'=>?_) fun _ _ z=>z.elim
   obtain⟨v,H6,J6,r6,y6,st6,fr6⟩:=h6'
   clear h6
   have J6':=J6.pinned (fpX fr6) (T.obj _ _ st6)
   show wpAny _ _ (assign (.Name x px) _ u) _ _ _
   refine wpAny_assign_Name (ae1 (i:=0) J6' hnd rfl (.inl (lookup_relabel_local hx)) r6 (fun s7 J7=>?_) (.inr (lookup_relabel_local hx)))
   have J7:Inv (aaD X (x::N') scope cl s3.heap.objs.size fp pins s3 H3) ([]++ab7 fp s6'.heap) (some v::aaH js σ) H6 s7:=J7
   have again:∀{σ8:St} {H8:Hp} {s8:Shared},Inv (aaD X (x::N') scope cl s3.heap.objs.size fp pins s3 H3) ([]++ab7 fp s6'.heap) σ8 H8 s8->tn (i+1) s8.heap/\∀b∈fp,H8 b=none:=fun {σ8 H8 s8} J8=>by
    refine⟨T.keep _ _ _ st6 fun b hb o e=>(J8.pin (b,o) (List.mem_append_right _ (List.mem_append_right _ (aaR hb e)))).1,fun b hb=>?_⟩
    obtain⟨o,e,d⟩:=T.obj _ _ st6 b hb
    exact (J8.pin (b,o) (List.mem_append_right _ (List.mem_append_right _ (aaR hb e)))).2.1
   refine wpAny_mono (ht _ _ _ _ _ _ s7 _ H6 _ J7 (step v H6 y6)) (fun ok s8 ⟨H8,J8,q8⟩=>?_) fun _ _ z=>z.elim
   cases ok with
   |false=>
    obtain⟨m',hm,w8⟩:=(show ∃m',m'<n/\W (i+1) m' H8 from q8)
    obtain⟨a1,a2⟩:=again J8
    exact⟨m',hm,i+1,some v,H8,J8.unpinned,a1,a2,w8⟩
   |true=>
    refine wpAny_mono (he _ _ _ _ _ _ s8 _ H8 _ J8 q8) (fun y s9 ⟨z,H9,J9,r9,ys,hys,hlen,m',hm,w9⟩=>?_) fun _ _ z=>z.elim
    refine wpAny_mono (acF (X:=aaD X (x::N') scope cl s3.heap.objs.size fp pins s3 H3) _ s9 _ H9 (.ref D) [z] (.ref D) [y] (fun _ H10=>H10=upd H9 D (.lst (ys++[z]))) J9 rfl (.cons r9 .nil) ⟨D,ys,z,rfl,rfl,hys,hlen,rfl⟩) (fun _ s10 ⟨_,H10,J10,_,e10⟩=>?_) fun _ _ z=>z.elim
    subst e10
    obtain⟨a1,a2⟩:=again J10
    exact⟨m',hm,i+1,some v,_,J10.unpinned,a1,a2,w9⟩
 exact codeAny_compStart_list (loop _ rfl) (T.self _ 0 _ _ _ st4 (loop _ rfl))
theorem am7{wi:TI}(hcl:Clos X scope cl)(hx:scope.names.lookup x=some .local)(hnd:(x::N').Nodup)(hN:js.map (fun j=>X.N[j]?)=N'.map some)
  (hk:N'.all (fun y=>(X.env.kindOf y==some .cell)||(X.env.kindOf y==some .free))=true) (hf:N'.all (fun y=>scope.names.lookup y==some .free)=true) (hc:X.calm=true)
  (hi:PI X (.Name x px) iter wi)
  (ht:∀(C:Addr) (ex:List Addr) (pins:List (Addr×Obj)) (s:Shared) (H:Hp),PF (aaD X (x::N') scope cl C ex pins s H) ifs tt)
  (he:∀(C:Addr) (ex:List Addr) (pins:List (Addr×Obj)) (s:Shared) (H:Hp),PE (aaD X (x::N') scope cl C ex pins s H) elt te)
  (hs:∀x,foldedSetIterable iter X.env x=pure x:=by intro _;rfl):
  PE X (.ListComp elt [⟨.Name x px,iter,ifs,0⟩] scope pos) (alM wi js tt te):=by
 intro pins s σ H Q I h
 rw[eval_ListComp]
 refine wpAny_comprehension_free (use:=none) rfl hs hcl.is hcl.kind hcl.names (thn (hi pins s σ H _ I h) fun xv s₁ h₁=>thn h₁ fun itv s₂ h₂=>?_)
 obtain⟨it,fp,tn,J,H2,rfl,I2,T,st,hfp,q⟩:=h₂
 refine aeH (RR:=fun acc C=>compPost (model X.prog X.w) X.A X.xe none (EP X pins σ Q) acc C) hcl hx hnd hN hk hf hc ht he I2 T st hfp q ?_
 intro D C s' H' m I' hC0 hCL hCs hCc hCp hn hq
 refine⟨m,hn,fun h' sb=>⟨.ref D,H',?_,rfl,hq⟩⟩
 exact I'.turned (t':=s'.toks) (fun b o hb e=>(sb.2 b hb).trans e) hC0 hCL (.inr hCs) hCc hCp
end
theorem abO(env:Env):∀(names:List (Str×NameKind)) (acc:List (Str×Addr)),names.all (fun y=>y.2 != .free||(env.cells.lookup y.1).isSome)=true->
  ∃cl:List (Str×Addr),(forIn (m:=Sem) names acc fun x r=>(do
   let (name,kind):=x
   if kind== .free then do let c ←cellOf env name;pure (ForInStep.yield ((name,c)::r)) else pure (ForInStep.yield r)))=(pure cl:Sem _)/\
   (∀y c,cl.lookup y=some c->env.cells.lookup y=some c∨acc.lookup y=some c)/\(∀y,(∃c,acc.lookup y=some c)->∃c,cl.lookup y=some c)/\(∀y,(y,NameKind.free)∈names->∃c,cl.lookup y=some c)
 |[],acc,_=>⟨acc,rfl,fun _ _ h=>.inr h,fun _ h=>h,fun _ h=>nomatch h⟩
 |(n,k)::r,acc,h=>by
  rw[List.all_cons,Bool.and_eq_true] at h
  by_cases hk:k=.free
  ·subst hk
   have h1:(env.cells.lookup n).isSome=true:=by simpa using h.1
   obtain⟨c,hc⟩:=Option.isSome_iff_exists.mp h1
   obtain⟨cl,e,p1,p2,p3⟩:=abO env r ((n,c)::acc) h.2
   refine⟨cl,?_,fun y c' hy=>?_,fun y hy=>?_,fun y hy=>?_⟩
   ·rw[←e]
    have q:cellOf env n=(pure c:Sem Addr):=by unfold cellOf;rw[hc]
    rw[List.forIn_cons]
    dsimp only
    rw[if_pos (show (NameKind.free==NameKind.free)=true from rfl),q]
    rfl
   ·rcases p1 y c' hy with z | z
    ·exact .inl z
    ·rw[List.lookup_cons] at z
     cases hyn:y==n with
     |true=>
      rw[hyn] at z
      have e1:y=n:=by simpa using hyn
      have e2:c=c':=by simpa using z
      rw[e1,←e2]
      exact .inl hc
     |false=>
      rw[hyn] at z
      exact .inr z
   ·refine p2 y ?_
    rw[List.lookup_cons]
    cases hyn:y==n with
    |true=>exact⟨c,rfl⟩
    |false=>exact hy
   ·rcases List.mem_cons.mp hy with z | z
    ·refine p2 y ⟨c,?_⟩
     have e1:y=n:=(Prod.mk.inj z).1
     rw[e1,List.lookup_cons]
     simp
    ·exact p3 y z
  ·obtain⟨cl,e,p1,p2,p3⟩:=abO env r acc h.2
   have hk':(k==NameKind.free)=false:=by simpa using hk
   refine⟨cl,?_,p1,p2,fun y hy=>?_⟩
   ·rw[←e]
    rw[List.forIn_cons]
    dsimp only
    rw[if_neg (by rw[hk'];exact Bool.false_ne_true)]
    rfl
   ·rcases List.mem_cons.mp hy with z | z
    ·exact absurd (Prod.mk.inj z).2.symm hk
    ·exact p3 y z
theorem ad4{X:Cx}{scope:Scope}(h:scope.names.all (fun y=>y.2 != .free||(X.env.cells.lookup y.1).isSome)=true)(h2:scope.names.all (fun y=>y.2 != .cell)=true)(h3:scope.kind=.function)
  (h4:scope.names.all (fun y=>y.2 != .local||scope.names.lookup y.1==some .local)=true):∃cl,Clos X scope cl:=by
 obtain⟨cl,e,p1,p2,p3⟩:=abO X.env scope.names [] h
 refine⟨cl,?_,fun y c hy=>?_,fun y hy=>p3 y (PySem.mem_of_lookup hy),fun y hy=>by simpa using List.all_eq_true.mp h2 y hy,h3,fun y hy hl=>?_⟩
 ·unfold closureFor
  exact Eq.trans (congrArg (fun t:Sem (List (Str×Addr))=>t >>=fun r=>(pure r:Sem (List (Str×Addr)))) e) rfl
 ·rcases p1 y c hy with z | z
  ·exact z
  ·simp at z
 ·have q:=List.all_eq_true.mp h4 y hy
  simpa [hl] using q
section
variable{js:List Nat}{σ:St}{tt:TT}{te:TE}{Q:VK}{H1:Hp}
theorem abE{lo:Int}{n:Nat}(R:Nat->List V->Prop)(hn:n<=sizeLine)(h0:R 0 [])
  (hs:∀(i:Nat) (l:List V) (D:Addr) (H2:Hp) (E:V->Hp->Prop) (F:Hp->Prop),i<n->R i l->H1 D=none->Same H1 H2->H2 D=some (.lst l)->(∀y H5,Same H2 H5->R (i+1) (l++[y])->E y H5)->(∀H4,Same H2 H4->R (i+1) l->F H4)->
   tt (some (.int (lo+i))::aaH js σ) H2 fun b H4=>if b=true then te (some (.int (lo+i))::aaH js σ) H4 E else F H4)
  (hd:∀(D:Addr) (H2:Hp) (l:List V),R n l->H1 D=none->Same H1 H2->H2 D=some (.lst l)->Q (.ref D) H2):ahO (Itr lo n) js σ tt te Q H1:=by
 intro D hD
 refine⟨fun i m H2=>m=n-i/\i<=n/\Same H1 H2/\∃l,H2 D=some (.lst l)/\l.length<=i/\R i l,⟨n,by simp,Nat.zero_le _,aaB hD _,[],aaA,Nat.le_refl _,h0⟩,?_⟩
 rintro i m H2 ⟨rfl,hi,s2,l,h2,hll,hR⟩
 by_cases hlt:i<n
 ·refine .inr ⟨hlt,fun v H3 y=>?_⟩
  obtain⟨e,ev⟩:=y
  subst e ev
  refine hs i l D _ _ _ hlt hR hD s2 h2 (fun z H5 s5 r5=>?_) (fun H4 s4 r4=>?_)
  ·refine⟨l,s5 _ _ h2,Nat.lt_of_le_of_lt hll (Nat.lt_of_lt_of_le hlt hn),n-(i+1),by omega,rfl,hlt,fun b o hb=>?_,l++[z],aaA,by rw[List.length_append,List.length_singleton];omega,r5⟩
   rw[aaF (aaE hb hD)]
   exact s5 _ _ (s2 _ _ hb)
  ·exact⟨n-(i+1),by omega,rfl,hlt,s2.trans s4,l,s4 _ _ h2,by omega,r4⟩
 ·have e:i=n:=by omega
  subst e
  exact .inl ⟨Nat.le_refl _,hd D H2 l hR hD s2 h2⟩
end
structure E(X:Cx)(e:Expr)(t:TE):Prop where
 h:PE X e t
structure T(X:Cx)(e:Expr)(t:TT):Prop where
 h:PT X e t
structure TW(X:Cx)(e:Expr)(t:TT):Prop where
 h:PW X e t
structure As(X:Cx)(es:List Expr)(t:TA):Prop where
 h:PA X es t
structure S(X:Cx)(st:Stmt)(t:TS):Prop where
 h:PS X st t
structure Ss(X:Cx)(sts:List Stmt)(t:TS):Prop where
 h:PSs X sts t
structure Il(X:Cx)(tg iter:Expr)(wi:TI):Prop where
 h:PI X tg iter wi
structure Gt(X:Cx)(tg:Expr)(t:TG):Prop where
 h:PG X tg t
structure Gts(X:Cx)(ts:List Expr)(t:TGs):Prop where
 h:PGs X ts t
structure Fs(X:Cx)(ifs:List Expr)(t:TT):Prop where
 h:PF X ifs t
structure Op2(X:Cx)(f:Value->Value->Sem Value)(r:R2):Prop where
 h:OpR X f r
structure Op1(X:Cx)(f:Value->Sem Value)(r:V->Hp->VK->Prop):Prop where
 h:UnR X f r
structure Cl1(X:Cx)(f:Value)(r:List V->Hp->VK->Prop):Prop where
 h:afW X f r
structure Ixs(X:Cx)(r:R2):Prop where
 h:IxR X r
section
variable{X:Cx}{a b c e:Expr}{pos p:Pos}{ta tb tc te:TE}{t u:TT}{aa9 es:List Expr}{tA:TA}{op op':CmpOp}{r r':R2}{x:Str}
theorem v_(i:Nat)(hN:X.N[i]? =some x:=by rfl)(hv:Vis X.env.scope x:=by first | exact Or.inl rfl | exact Or.inr (Or.inl rfl) | exact Or.inr (Or.inr rfl))(hd:(x==("__debug__":Str))=false:=by decide)(hcd:(x==("__classdict__":Str))=false:=by decide):
  E X (.Name x pos) (asW i):=⟨aqV hN hv hd hcd⟩
theorem eI{i j}:E X (.Constant (.int i) j pos) (tC (.int i)):=⟨alR⟩
theorem eB{k j}:E X (.Constant (.bool k) j pos) (tC (.bl k)):=⟨asI⟩
theorem eN{j}:E X (.Constant .none j pos) (tC .non):=⟨aqO⟩
theorem eGl{v:V}{w':Value}(hm:X.mg x=some w')(q:RelV v w')(hg:Gl X x:=by rfl)(hd:(x==("__debug__":Str))=false:=by decide):E X (.Name x pos) (tC v):=⟨an2 hg hm q hd⟩
theorem eTy{n:String}(hm:X.mg x=none)(hv:bootBuiltins x=some (.type n))(hg:Gl X x:=by rfl)(hn:x≠"__name__":=by decide)(hd:(x==("__debug__":Str))=false:=by decide):E X (.Name x pos) (tC (.ty n)):=⟨anF hg hm hv rfl hn hd⟩
theorem eOp{o:Operator}(ho:Op2 X (binaryOp o) r)(ha:E X a ta)(hb:E X b tb):E X (.BinOp a o b pos) (tOp r ta tb):=⟨asB ho.h ha.h hb.h⟩
theorem eUn{o:UnaryOp}{r1:V->Hp->VK->Prop}(ho:Op1 X (unaryOp o) r1)(ha:E X a ta):E X (.UnaryOp o a pos) (tUn r1 ta):=⟨as0 ho.h ha.h⟩
theorem akQ(ho:Op2 X (compareOp op) r)(ha:E X a ta)(hb:E X b tb)(hm:behindInMarks op b=false:=by first | exact amS _ | rfl):E X (.Compare a [op] [b] pos) (tOp r ta tb):=⟨anA ho.h ha.h hb.h hm⟩
theorem ap1{o}(ha:E X a ta):E X (.BoolOp o [a] pos) ta:=⟨aqS ha.h⟩
theorem eAnd(ha:E X a ta)(hb:E X (.BoolOp .And (b::aa9) pos) tb):E X (.BoolOp .And (a::b::aa9) pos) (aoL ta tb):=⟨aqC ha.h hb.h⟩
theorem eOr(ha:E X a ta)(hb:E X (.BoolOp .Or (b::aa9) pos) tb):E X (.BoolOp .Or (a::b::aa9) pos) (asS ta tb):=⟨aq8 ha.h hb.h⟩
theorem eIf(hc:T X c t)(ha:E X a ta)(hb:E X b tb):E X (.IfExp c a b pos) (tIf t ta tb):=⟨amB hc.h ha.h hb.h⟩
theorem tCm(ho:Op2 X (compareOp op) r)(ha:E X a ta)(hb:E X b tb)(hm:behindInMarks op b=false:=by first | exact amS _ | rfl):T X (.Compare a [op] [b] pos) (aoN (tOp r ta tb)):=⟨an6 ho.h ha.h hb.h hm⟩
theorem tNo(ha:T X a t):T X (.UnaryOp .Not a pos) (asN t):=⟨apD ha.h⟩
theorem tVa(ha:E X e te)(he:∀whole,isTrue e X.env whole=(do let v ←whole;standAt e.pos;holding [v] (truthy v)):=by intro _;rfl):T X e (L2.tB te):=⟨aqP ha.h he⟩
theorem ao0(ha:T X a t):TW X (.BoolOp .And [a] pos) t:=⟨aoI ha.h⟩
theorem wOr1(ha:T X a t):TW X (.BoolOp .Or [a] pos) t:=⟨apZ ha.h⟩
theorem ar6(ha:T X a t)(hb:TW X (.BoolOp .And (b::aa9) pos) u):TW X (.BoolOp .And (a::b::aa9) pos) (asT t u):=⟨aqR ha.h hb.h⟩
theorem wOr(ha:T X a t)(hb:TW X (.BoolOp .Or (b::aa9) pos) u):TW X (.BoolOp .Or (a::b::aa9) pos) (tOr t u):=⟨asD ha.h hb.h⟩
theorem tW(ha:TW X e t):T X e t:=⟨ha.h.pt⟩
theorem aN:As X [] aj3:=⟨adM⟩
theorem aC(ha:E X e te)(hr:As X es tA)(hs:starEach (e::es) X.env=(false,eval e X.env)::starEach es X.env:=by rfl):As X (e::es) (afY te tA):=⟨acG ha.h hr.h hs⟩
theorem ar9(is:List Int)(h:es.map ahU=is.map some:=by rfl):As X es (aoT is):=⟨ajT is h⟩
theorem agZ(ha:As X es tA):E X (.List es pos) (ar7 tA):=⟨aqX ha.h⟩
theorem alO{k}(ha:As X es tA):E X (.Tuple es k pos) (asU tA):=⟨ap9 ha.h⟩
theorem eIx(hr:Ixs X r)(ha:E X a ta)(hb:E X b tb)(hs:ajR b:=by intro _ _;rfl):E X (.Subscript a b pos) (tOp r ta tb):=⟨aq9 hr.h ha.h hb.h hs⟩
theorem eD{k k':Nat}{ps:List Str}{sp:Sp}(D:Df X.prog X.w X.K X.mg X.base x k ps sp)(hr:Room k' X.A)(ha:As X (e::es) tA)(hk:k<=k':=by decide)(hg:Gl X x:=by rfl)
  (hdb:(x==("__debug__":Str))=false:=by decide) (he:starEach (e::es) X.env=(false,eval e X.env)::starEach es X.env:=by rfl) (hpl:(backTo pos (starEach es X.env)).any (·.1)=false:=by rfl):
  E X (.Call (.Name x p) (e::es) [] pos) (ai0 sp [] E0 tA):=⟨ak1 D hr ha.h hk hg hdb he hpl⟩
theorem eCB{id:String}{rc:List V->Hp->VK->Prop}(hc:Cl1 X (.builtin id) rc)(hm:X.mg x=none)(hv:bootBuiltins x=some (.builtin id))(ha:As X (e::es) tA)(hg:Gl X x:=by rfl)(hn:x≠"__name__":=by decide)(hdb:(x==("__debug__":Str))=false:=by decide)
  (he:starEach (e::es) X.env=(false,eval e X.env)::starEach es X.env:=by rfl) (hpl:(backTo pos (starEach es X.env)).any (·.1)=false:=by rfl):E X (.Call (.Name x p) (e::es) [] pos) (tCB rc tA):=⟨al8 hc.h hg hm hv ha.h hn hdb he hpl⟩
theorem eCT{n:String}{rc:List V->Hp->VK->Prop}(hc:Cl1 X (.type n) rc)(hm:X.mg x=none)(hv:bootBuiltins x=some (.type n))(ha:As X (e::es) tA)(hg:Gl X x:=by rfl)(hn:x≠"__name__":=by decide)(hdb:(x==("__debug__":Str))=false:=by decide)
  (he:starEach (e::es) X.env=(false,eval e X.env)::starEach es X.env:=by rfl) (hpl:(backTo pos (starEach es X.env)).any (·.1)=false:=by rfl):E X (.Call (.Name x p) (e::es) [] pos) (tCB rc tA):=⟨akM hc.h hg hm hv ha.h hn hdb he hpl⟩
end
section
variable{X:Cx}
theorem ad7:Op2 X (binaryOp .Add) (rI0 fun i j=>.int (i+j)):=⟨apH⟩
theorem amT:Op2 X (binaryOp .Sub) (rI0 fun i j=>.int (i-j)):=⟨ap3⟩
theorem ae9:Op2 X (binaryOp .Mult) (rI CMul fun i j=>.int (i*j)):=⟨aqY⟩
theorem oDiv:Op2 X (binaryOp .FloorDiv) (rI as7 fun i j=>.int (i / j)):=⟨aoB⟩
theorem adK:Op2 X (binaryOp .Mod) (rI (fun _ j=>0<j) fun i j=>.int (i%j)):=⟨ao9⟩
theorem ap6:Op2 X (binaryOp .Pow) (rI aoA fun i j=>.int (i^j.toNat)):=⟨aqU⟩
theorem an8:Op2 X (binaryOp .LShift) (rI aoA fun i j=>.int (i*2^j.toNat)):=⟨aq0⟩
theorem akE:Op2 X (binaryOp .RShift) (rI (fun _ j=>0<=j) fun i j=>.int (i / 2^j.toNat)):=⟨apI⟩
theorem agV:Op2 X (binaryOp .BitAnd) (rI0 fun i j=>.int (Builtin.bitAnd i j)):=⟨apA⟩
theorem oOr:Op2 X (binaryOp .BitOr) (rI0 fun i j=>.int (Builtin.bitOr i j)):=⟨aq7⟩
theorem oEq:Op2 X (compareOp .Eq) rEq:=⟨arI⟩
theorem oNe:Op2 X (compareOp .NotEq) rNe:=⟨arM⟩
theorem oLt:Op2 X (compareOp .Lt) (rI0 fun i j=>.bl (decide (i<j))):=⟨as5⟩
theorem oLe:Op2 X (compareOp .LtE) (rI0 fun i j=>.bl (decide (i<=j))):=⟨asZ⟩
theorem oGt:Op2 X (compareOp .Gt) (rI0 fun i j=>.bl (decide (j<i))):=⟨arJ⟩
theorem xL:Ixs X (ap7 X.K):=⟨anT⟩
theorem xT:Ixs X (arX X.K):=⟨aqB⟩
theorem agT:Cl1 X (.builtin "len") (fun xs H Q=>∃p ys,xs=[.ref p]/\(SqL X.K H p ys∨SqT X.K H p ys)/\Q (.int ys.length) H):=⟨agU⟩
theorem cAbs:Cl1 X (.builtin "abs") (fun xs H Q=>∃i,xs=[.int i]/\Q (.int (if i<0 then -i else i)) H):=⟨amW⟩
end
section
variable{X:Cx}{e c iter tg:Expr}{te:TE}{tt:TT}{tA:TA}{wi:TI}{g:TG}{t u tb:TS}{st:Stmt}{aa9 body ba bb:List Stmt}{pos pos' p:Pos}{x:Str}{a1 a2:Expr}
theorem ssN:Ss X [] aoP:=⟨anN⟩
theorem ssC(h1:S X st t)(h2:Ss X aa9 u):Ss X (st::aa9) (ar2 t u):=⟨alU h1.h h2.h⟩
theorem ss1(h1:S X st t):Ss X [st] t:=⟨aoC h1.h⟩
theorem aa1(he:E X e te):S X (.Return (some e) pos) (asG te):=⟨ao2 he.h⟩
theorem sIf(hc:T X c tt)(ha:Ss X ba t)(hb:Ss X bb u):S X (.If c ba bb pos) (arU tt t u):=⟨arG hc.h ha.h hb.h⟩
theorem an9(he:E X e te)(hs:swapsWith e none pos.line X.env=pure false:=by rfl):S X (.Expr e pos) (aoX te):=⟨am6 he.h hs⟩
theorem aa6(i:Nat)(he:E X e te)(hN:X.N.Nodup)(hi:X.N[i]? =some x:=by rfl)(hx:Loc X.env.scope x:=by first | exact Or.inl rfl | exact Or.inr rfl)(hs:swapsWith e (some (.Name x pos')) pos.line X.env=pure false:=by rfl)
  (hf:X.fn x=true∨X.env.scope.names.lookup x=some .local:=by first | exact .inl rfl | exact .inr rfl):S X (.Assign [.Name x pos'] e pos) (alK te (acZ i)):=⟨ap4 hN hi hx he.h hs hf⟩
theorem gN(i:Nat)(hN:X.N.Nodup)(hi:X.N[i]? =some x:=by rfl)(hx:Loc X.env.scope x:=by first | exact Or.inl rfl | exact Or.inr rfl)(hf:X.fn x=true∨X.env.scope.names.lookup x=some .local:=by first | exact .inl rfl | exact .inr rfl):Gt X (.Name x pos) (acZ i):=⟨an1 hN hi hx hf⟩
theorem ahH(hi:Il X tg iter wi)(hg:Gt X tg g)(hb:Ss X body tb)(hp:PassesOwn (model X.prog X.w) X.A X.env X.xe)(hc:X.calm=true:=by rfl)(hs:∀x,foldedSetIterable iter X.env x=pure x:=by intro _;rfl):S X (.For tg iter body [] pos) (arH wi g tb):=⟨aqD hp hc hi.h hg.h hb.h hs⟩
theorem iL(hl:E X e te):Il X tg e (alV X.K te):=⟨anJ hl.h⟩
theorem iR1(hm:X.mg "range"=none)(ha:As X [a1] tA)(hg:Gl X "range":=by rfl)(hs:starEach [a1] X.env=[(false,eval a1 X.env)]:=by rfl):Il X tg (.Call (.Name "range" p) [a1] [] pos) (aoO tA):=⟨akT hg hm ha.h hs⟩
end
section
variable{P:Program}{w:World}{K:PySem.W.Frag}{mg:Str->Option Value}{base:Heap}{x:Str}{st:Stmt}{ps N:List Str}{k:Nat}{sp:Sp}
theorem Fn.dfs(F:Fn K mg x st ps)(S':FnScope N ps (aaC st))(len:∀vs H Q E,sp vs H Q E->vs.length=ps.length)
  (hbody:∀(f:Addr) (cdv:Value) (A:Around) (outer:List Env) (s:Shared) (H:Hp) (vs:List V) (Q:VK) (E:XK),Room k (A.deeper (envOfC x (aaC st) s.heap.objs.size f cdv))->sp vs H Q E->
   ∃t,Ss (ag1 CX0 P w K mg base N x (aaC st) f cdv A outer s H E).nox (aaX st) t/\t {nx:=fun _ H'=>Q .non H',rt:=Q} (ab2 N vs) H):Df P w K mg base x (k+1) ps sp:=
 F.df S' len fun f cdv A outer s H vs Q E hr h=>by
  obtain⟨t,h1,h2⟩:=hbody f cdv A outer s H vs Q E hr h
  exact⟨t,h1.h,h2⟩
theorem Fun.oks{f:Addr}{fd:FuncData}(F:Fun K x x st f fd)(S':FnScope N ps (aaC st))(len:∀vs H Q E,sp vs H Q E->vs.length=ps.length)
  (hbody:∀(cdv:Value) (A:Around) (outer:List Env) (s:Shared) (H:Hp) (vs:List V) (Q:VK) (E:XK),Room k (A.deeper (envOfC x (aaC st) s.heap.objs.size f cdv))->sp vs H Q E->
   ∃t,Ss (ag1 CX0 P w K mg base N x (aaC st) f cdv A outer s H E).nox (aaX st) t/\t {nx:=fun _ H'=>Q .non H',rt:=Q} (ab2 N vs) H):FnOk P w K mg base CX0 (k+1) f fd ps sp:=
 F.ok S' len fun cdv A outer s H vs Q E hr h=>by
  obtain⟨t,h1,h2⟩:=hbody cdv A outer s H vs Q E hr h
  exact⟨t,h1.h,h2⟩
end
end L2
namespace L2
open PySem PySem.Spec PyProof.Rows PySem.SeqAt
theorem aa8:∀{is:List Int} {us:List Value},Vals (is.map V.int) us->IntsAre us is
 |[],_,.nil=>.nil
 |_::_,_,.cons ⟨_,rfl⟩ r=>.cons _ _ (aa8 r)
section
variable{X:Cx}
theorem aj4(hc:X.calm=true):afW X (.builtin "sum") (fun xs H Q=>∃(p:Addr) (is:List Int),xs=[.ref p]/\SqL X.K H p (is.map V.int)/\Q (.int is.sum) H):=by
 intro pins s σ H xs us Q I r h
 obtain⟨p,is,rfl,hq,q⟩:=h
 obtain⟨u,rfl,r1⟩:=adQ r
 cases r1
 obtain⟨its,rv,pl,hz⟩:=I.list hq
 have hi:=aa8 rv
 obtain⟨ys,hy⟩:=hi.allInts.items
 have hl:s.heap.IsList p (intItems ys):=by rw[←hy];exact pl.isList
 refine sum_intListG (I.ok.hd hc) hl fun h' tk t' hk=>?_
 have e1:is=ys.toList.map (·.1):=by
  rw[←nums_intItems,←hy]
  exact hi.numsOf.symm
 have e2:preSum (numAt ys) ys.size=is.sum:=by
  rw[preSum_eq,List.take_of_length_le (by simp),e1]
 rw[e2]
 exact⟨.int is.sum,H,I.kept hk,⟨_,rfl⟩,q⟩
def akL(tup:Bool)(is:List Int):PyData:=if tup then .tuple (is.map PyData.int) else .list (is.map PyData.int)
def SqI(K:PySem.W.Frag)(H:Hp)(a:Addr)(tup:Bool)(is:List Int):Prop:=if tup then SqT K H a (is.map V.int) else SqL K H a (is.map V.int)
theorem amO{pins:List (Addr×Obj)}{σ:St}{H:Hp}{s:Shared}{a:Addr}{tup:Bool}{is:List Int}(I:Inv X pins σ H s)(h:SqI X.K H a tup is):∃as,Reads s.heap (.ref a) (akL tup is) as:=by
 cases tup with
 |false=>
  obtain⟨its,rv,pl,hz⟩:=I.list (show SqL X.K H a (is.map V.int) from h)
  exact⟨_,PySem.W.reads_of_ints pl.isList (aa8 rv)⟩
 |true=>
  obtain⟨its,rv,⟨o,ho,hc,n,hd⟩,hz⟩:=I.tuple (show SqT X.K H a (is.map V.int) from h)
  exact⟨_,Reads.tuple ho hc hd (by simpa using PySem.W.readsAll_of_ints (aa8 rv))⟩
theorem ajG(tup:Bool)(is:List Int):shaped (akL tup is)=true:=by
 cases tup with
 |false=>exact PySem.W.shaped_ints is
 |true=>
  have h1:=PySem.W.depthAll_ints is
  have h2:PyData.depth (.tuple (is.map PyData.int))<=64:=by simp only[PyData.depth];omega
  show (PyData.canLay0 (.tuple (is.map PyData.int))&&decide (PyData.depth (.tuple (is.map PyData.int))<=64))=true
  rw[Bool.and_eq_true]
  exact⟨by simp only[PyData.canLay0];exact PySem.W.canLayAll0_ints is,decide_eq_true h2⟩
theorem ao8(tup:Bool)(is js:List Int):noMix (akL tup is) (akL tup js)=true:=by
 cases tup with
 |false=>show noMix (.list _) (.list _)=true;simp only[noMix];exact PySem.W.noMix_ints is js
 |true=>show noMix (.tuple _) (.tuple _)=true;simp only[noMix];exact PySem.W.noMix_ints is js
theorem ar3(tup:Bool)(is js:List Int):same (akL tup is) (akL tup js)=decide (is=js):=by
 cases tup with
 |false=>show same (.list _) (.list _)=_;simp only[same];exact PySem.W.same_ints is js
 |true=>show same (.tuple _) (.tuple _)=_;simp only[same];exact PySem.W.same_ints is js
def arF(K:PySem.W.Frag)(neg:Bool):R2:=fun x y H Q=>∃(a b:Addr) (tup:Bool) (is js:List Int),x=.ref a/\y=.ref b/\SqI K H a tup is/\SqI K H b tup js/\Q (.bl (if neg then !decide (is=js) else decide (is=js))) H
theorem apC(hu:X.A.units+64<cLine):OpR X (compareOp .NotEq) (arF X.K true):=by
 intro pins s σ H x y v u Q I rx ry h
 obtain⟨a,b,tup,is,js,rfl,rfl,ha,hb,q⟩:=h
 cases rx
 cases ry
 obtain⟨as,ra⟩:=amO I ha
 obtain⟨bs,rb⟩:=amO I hb
 exact ne_dataH_same ra rb (ajG _ _) (ajG _ _) hu (ao8 _ _ _) (by rw[ar3];exact⟨.bl _,H,I,rfl,q⟩)
end
section
variable{X:Cx}{elt iter:Expr}{x y:Str}{px py pos spos:Pos}{ifs:List Expr}{scope:Scope}{wi:TI}{tt:TT}{te:TE}
theorem acR(N':List Str)(js:List Nat)(hi:Il X (.Name x px) iter wi)
  (ht:∀(cl:List (Str×Addr)) (C:Addr) (ex:List Addr) (pins:List (Addr×Obj)) (s:Shared) (H:Hp),Fs (aaD X (x::N') scope cl C ex pins s H) ifs tt)
  (he:∀(cl:List (Str×Addr)) (C:Addr) (ex:List Addr) (pins:List (Addr×Obj)) (s:Shared) (H:Hp),E (aaD X (x::N') scope cl C ex pins s H) elt te)
  (hcl:∃cl,Clos X scope cl:=by exact ad4 rfl rfl rfl rfl) (hx:scope.names.lookup x=some .local:=by rfl) (hnd:(x::N').Nodup:=by decide +kernel) (hN:js.map (fun j=>X.N[j]?)=N'.map some:=by rfl)
  (hk:N'.all (fun y=>(X.env.kindOf y==some .cell)||(X.env.kindOf y==some .free))=true:=by rfl) (hf:N'.all (fun y=>scope.names.lookup y==some .free)=true:=by rfl) (hc:X.calm=true:=by rfl)
  (hs:∀x,foldedSetIterable iter X.env x=pure x:=by intro _;rfl):E X (.ListComp elt [⟨.Name x px,iter,ifs,0⟩] scope pos) (alM wi js tt te):=by
 obtain⟨cl,hcl⟩:=hcl
 exact⟨am7 hcl hx hnd hN hk hf hc hi.h (fun C ex pins s H=>(ht cl C ex pins s H).h) (fun C ex pins s H=>(he cl C ex pins s H).h) hs⟩
theorem ajJ(i:Nat)(N':List Str)(js:List Nat)(hi:Il X (.Name x px) iter wi)
  (ht:∀(cl:List (Str×Addr)) (C:Addr) (ex:List Addr) (pins:List (Addr×Obj)) (s:Shared) (H:Hp),Fs (aaD X (x::N') scope cl C ex pins s H) ifs tt)
  (he:∀(cl:List (Str×Addr)) (C:Addr) (ex:List Addr) (pins:List (Addr×Obj)) (s:Shared) (H:Hp),E (aaD X (x::N') scope cl C ex pins s H) elt te)
  (hXN:X.N.Nodup) (hsw:swapsWith (.ListComp elt [⟨.Name x px,iter,ifs,0⟩] scope pos) (some (.Name y py)) spos.line X.env=pure true:=by rfl)
  (hiN:X.N[i]? =some y:=by rfl) (hy:X.env.scope.names.lookup y=some .local:=by rfl)
  (hcl:∃cl,Clos X scope cl:=by exact ad4 rfl rfl rfl rfl) (hx:scope.names.lookup x=some .local:=by rfl) (hnd:(x::N').Nodup:=by decide +kernel) (hN:js.map (fun j=>X.N[j]?)=N'.map some:=by rfl)
  (hk:N'.all (fun y=>(X.env.kindOf y==some .cell)||(X.env.kindOf y==some .free))=true:=by rfl) (hf:N'.all (fun y=>scope.names.lookup y==some .free)=true:=by rfl) (hc:X.calm=true:=by rfl)
  (hs:∀x,foldedSetIterable iter X.env x=pure x:=by intro _;rfl):S X (.Assign [.Name y py] (.ListComp elt [⟨.Name x px,iter,ifs,0⟩] scope pos) spos) (alK (alM wi js tt te) (acZ i)):=by
 obtain⟨cl,hcl⟩:=hcl
 refine⟨fun pins s σ H D I h=>?_⟩
 rw[exec_Assign_Name_used _ _ _ _ hsw]
 refine wpAny_bind (wpAny_standAt (wpAny_bind ?_))
 show wpAny _ X.A (do let _ ←comprehension (.ListComp elt [⟨.Name x px,iter,ifs,0⟩] scope pos) scope X.env _ (newList []) false (eval iter X.env) (some (assign (.Name y py) X.env))) _ _ s
 refine wpAny_bind (wpAny_mono (wpAny_comprehension_free (use:=some (assign (.Name y py) X.env)) (Q:=fun _ s'=>SP X pins D .next s') rfl hs hcl.is hcl.kind hcl.names ?_) (fun _ s' hq=>wpAny_pure (wpAny_pure hq)) fun _ _ z=>z)
 refine thn (hi.h pins s σ H _ I h) fun xv s₁ h₁=>thn h₁ fun itv s₂ h₂=>?_
 obtain⟨it,fp,tn,J,H2,rfl,I2,T,st,hfp,q⟩:=h₂
 refine aeH (Q:=fun v H'=>D.nx (σ.set i (some v)) H') (RR:=fun acc C=>compPost (model X.prog X.w) X.A X.xe (some (assign (.Name y py) X.env)) (fun _ s'=>SP X pins D .next s') acc C) hcl hx hnd hN hk hf hc (fun C ex pins s H=>(ht cl C ex pins s H).h) (fun C ex pins s H=>(he cl C ex pins s H).h) I2 T st hfp q ?_
 intro D' C s' H' m I' hC0 hCL hCs hCc hCp hn hq
 show wpAny _ _ (assign (.Name y py) X.env (.ref D')) _ _ s'
 refine wpAny_assign_Name (af4 I' hXN hiN (.inl hy) (v:=.ref D') rfl (fun s3 I3 sb3=>?_) (.inr hy))
 obtain⟨a3,sb3,e3⟩:=sb3
 have hCa:C≠a3:=by
  rcases e3 with e3 | e3
  ·rw[e3];exact hCL
  ·exact fun z=>hCc y a3 e3 z.symm
 refine⟨m,hn.sameBut sb3 hCa,fun h' sb=>⟨σ.set i (some (.ref D')),H',?_,hq⟩⟩
 exact I3.turned (t':=s3.toks) (fun b o hb e=>(sb.2 b hb).trans e) hC0 hCL (.inr hCs) hCc hCp
theorem fsN:Fs X [] ar0:=⟨ap8⟩
theorem fs1{c:Expr}(h:T X c tt):Fs X [c] tt:=⟨aqM h.h⟩
theorem asF(hc:X.calm=true:=by rfl):Cl1 X (.builtin "sum") (fun xs H Q=>∃(p:Addr) (is:List Int),xs=[.ref p]/\SqL X.K H p (is.map V.int)/\Q (.int is.sum) H):=⟨aj4 hc⟩
theorem oNeI(hu:X.A.units+64<cLine):Op2 X (compareOp .NotEq) (arF X.K true):=⟨apC hu⟩
theorem gTu{es:List Expr}{k n:Nat}{t:TGs}(h:Gts X es t)(hc:X.calm=true:=by rfl)(hn:(assignEach es X.env).length=n:=by rfl)(hst:(assignEach es X.env).findIdx? (·.1)=none:=by rfl):Gt X (.Tuple es k pos) (anB X.K n t):=⟨aqQ hc h.h hn hst⟩
theorem gsN:Gts X [] ap5:=⟨am8⟩
theorem gsC{e:Expr}{es:List Expr}{t:TG}{u:TGs}(h1:Gt X e t)(h2:Gts X es u)(hs:(assignEach (e::es) X.env).map (·.2)=assign e X.env::(assignEach es X.env).map (·.2):=by rfl):Gts X (e::es) (ai4 t u):=⟨amX h1.h h2.h hs⟩
theorem asV{tg e:Expr}{g:TG}(he:E X e te)(hg:Gt X tg g)(hs:swapsWithSole [tg] e pos.line X.env=pure false:=by rfl)(hw:swappedStores [tg] e X.env=pure none:=by rfl)
  (h1:(assignEach [tg] X.env).map (·.2)=[assign tg X.env]:=by rfl):S X (.Assign [tg] e pos) (alK te g):=⟨ao5 he.h hg.h hs hw h1⟩
end
section
variable{js:List Nat}{σ:St}{tt:TT}{te:TE}{Q:VK}{H1:Hp}
theorem aa3{K:PySem.W.Frag}{a:Addr}{xs:List V}(R:Nat->List V->Prop)(hn:xs.length<=sizeLine)(h0:R 0 [])(hq:SqL K H1 a xs)
  (hs:∀(i:Nat) (v:V) (l:List V) (D:Addr) (H2:Hp) (E:V->Hp->Prop) (F:Hp->Prop),xs[i]? =some v->R i l->H1 D=none->Same H1 H2->H2 D=some (.lst l)->(∀y H5,Same H2 H5->R (i+1) (l++[y])->E y H5)->(∀H4,Same H2 H4->R (i+1) l->F H4)->
   tt (some v::aaH js σ) H2 fun b H4=>if b=true then te (some v::aaH js σ) H4 E else F H4)
  (hd:∀(D:Addr) (H2:Hp) (l:List V),R xs.length l->H1 D=none->Same H1 H2->H2 D=some (.lst l)->Q (.ref D) H2):ahO (Itl K a) js σ tt te Q H1:=by
 intro D hD
 refine⟨fun i m H2=>m=xs.length-i/\i<=xs.length/\Same H1 H2/\∃l,H2 D=some (.lst l)/\l.length<=i/\R i l,⟨xs.length,by simp,Nat.zero_le _,aaB hD _,[],aaA,Nat.le_refl _,h0⟩,?_⟩
 rintro i m H2 ⟨rfl,hi,s2,l,h2,hll,hR⟩
 by_cases hlt:i<xs.length
 ·refine .inr ⟨⟨xs,xs[i],s2.seq hq,by simp[hlt]⟩,fun v H3 y=>?_⟩
  obtain⟨e,ev⟩:=y
  subst e
  have hv:=ev xs (s2.seq hq)
  refine hs i v l D _ _ _ hv hR hD s2 h2 (fun z H5 s5 r5=>?_) (fun H4 s4 r4=>?_)
  ·refine⟨l,s5 _ _ h2,Nat.lt_of_le_of_lt hll (Nat.lt_of_lt_of_le hlt hn),xs.length-(i+1),by omega,rfl,hlt,fun b o hb=>?_,l++[z],aaA,by rw[List.length_append,List.length_singleton];omega,r5⟩
   rw[aaF (aaE hb hD)]
   exact s5 _ _ (s2 _ _ hb)
  ·exact⟨xs.length-(i+1),by omega,rfl,hlt,s2.trans s4,l,s4 _ _ h2,by omega,r4⟩
 ·have e:i=xs.length:=by omega
  subst e
  exact .inl ⟨⟨xs,s2.seq hq,Nat.le_refl _⟩,hd D H2 l hR hD s2 h2⟩
def IntsR(i:Nat)(l:List V):Prop:=∃zs:List Int,l=zs.map V.int/\zs.length<=i
theorem IntsR.nil:IntsR 0 []:=⟨[],rfl,Nat.le_refl _⟩
theorem IntsR.one{i:Nat}{l:List V}(h:IntsR i l)(z:Int):IntsR (i+1) (l++[.int z]):=by
 obtain⟨zs,rfl,hl⟩:=h
 exact⟨zs++[z],by rw[List.map_append];rfl,by rw[List.length_append,List.length_singleton];omega⟩
theorem Same.tup{K:PySem.W.Frag}{H H':Hp}{a:Addr}{xs:List V}(e:Same H H')(h:SqT K H a xs):SqT K H' a xs:=by
 rcases h with (h | ⟨o,h⟩) | h
 ·exact .inl (.inl (e _ _ h))
 ·exact .inl (.inr ⟨o,e _ _ h⟩)
 ·exact .inr h
theorem oNeg{X:Cx}:Op1 X (unaryOp .USub) (rU fun i=>.int (-i)):=⟨apJ⟩
end
section
variable{prog:Program}{w:World}{A:Around}{E:Value->Shared->Prop}{s:Shared}
end
section
variable{X:Cx}{pos:Pos}
theorem apM{o e:Expr}{to te:TE}{apos cpos:Pos}(ho:E X o to)(he:E X e te)(hbase:attributeBase o "append" X.env (eval o X.env)=eval o X.env:=by rfl)
  (hfew:((backTo cpos (starEach [e] X.env)).all (fun x=> !x.1)&&(backToKw cpos (keywordEach [] X.env)).all (fun x=>x.1.isSome)&&decide (([e]:List Expr).length+([]:List Keyword).length+(if ([]:List Keyword).isEmpty then 0 else 1)<30))=true:=by rfl)
  (hline:(apos.endLine==cpos.line)=true:=by rfl) (hs:starEach [e] X.env=(false,eval e X.env)::starEach [] X.env:=by rfl) (hplain:(backTo cpos (starEach [] X.env)).any (·.1)=false:=by rfl):
  E X (.Call (.Attribute o "append" apos) [e] [] cpos) (tBM X.K "list" ai1 to (afY te aj3)):=
 ⟨alN PySem.F.plainAttrs_list PySem.F.slot_list_append PySem.F.type_list_append acF ho.h (acG he.h adM hs) hbase hfew hline hs hplain⟩
end
section
variable{js:List Nat}{σ:St}{tt:TT}{te:TE}{Q:VK}{H1:Hp}
end
def Digs(ds ss:List Int):Prop:=Paired (fun d z:Int=>0<=d/\d<z) ds ss
theorem Digs.snoc{ds ss:List Int}{d z:Int}(h:Digs ds ss)(h0:0<=d)(h1:d<z):Digs (ds++[d]) (ss++[z]):=Paired.snoc h ⟨h0,h1⟩
theorem Digs.len{ds ss:List Int}(h:Digs ds ss):ds.length=ss.length:=Paired.length h
theorem ab8{H H2:Hp}{p:Addr}{o:HO}(hn:H p=none)(s:Same H H2):Same H (upd H2 p o):=fun b u h=>by
 rw[aaF (aaE h hn)]
 exact s b u h
theorem arO{a m b:Int}(h0:0<m)(h1:m<=18446744073709551616):CMul (a%m) b:=.inl ⟨Int.lt_of_lt_of_le (by decide) (Int.emod_nonneg a (Int.ne_of_gt h0)),Int.lt_of_lt_of_le (Int.emod_lt_of_pos a h0) h1⟩
theorem arW:(10:Int)^(18:Int).toNat=1000000000000000000:=by decide +kernel
section
variable{P:Program}{w:World}{K:PySem.W.Frag}{mg:Str->Option Value}{base:Heap}{m qual:Str}{st:Stmt}{ps N:List Str}{k:Nat}{sp:Sp}{C:Addr}
end
section
variable{X:Cx}{x m:Str}{C:Addr}{k k':Nat}{ps:List Str}{sp:Sp}{e o value:Expr}{es:List Expr}{ta tv:TE}{t:TA}{p pos apos pos':Pos}{f:Str}
end
structure Po(X:Cx)(o:Option Expr)(t:TO):Prop where
 h:PO X o t
structure Sls(X:Cx)(r:V->Option Int->Option Int->Hp->VK->Prop):Prop where
 h:SlR X r
section
variable{X:Cx}{e:Expr}{te:TE}{lo hi:Option Expr}{tl th:TO}{pos p2:Pos}
theorem poN:Po X none ai7:=⟨an0⟩
theorem poS(h:E X e te):Po X (some e) (aoW te):=⟨aoE h.h⟩
theorem slL:Sls X (arB X.K):=⟨anG⟩
theorem eSl{r:V->Option Int->Option Int->Hp->VK->Prop}(hr:Sls X r)(he:E X e te)(hl:Po X lo tl)(hu:Po X hi th):E X (.Subscript e (.Slice lo hi none p2) pos) (tSl r te tl th):=⟨al7 hr.h he.h hl.h hu.h⟩
end
section
variable{P:Program}{w:World}{K:PySem.W.Frag}{mg:Str->Option Value}{base:Heap}{m qual:Str}{st:Stmt}{ps N:List Str}{k:Nat}{sp:Sp}{C:Addr}{dvs:List V}
end
section
variable{X:Cx}{x:Str}{C:Addr}{k k':Nat}{ps:List Str}{sp:Sp}{p pos:Pos}{dvs:List V}
end
end L2
namespace L2
open PySem PyProof.Rows
def asJ(p:Nat->Bool):Nat->Nat
 |0=>0
 |n+1=>asJ p n+(if p n=true then 2^n else 0)
@[irreducible] def cnt(p:Nat->Bool)(n:Nat):Nat:=asJ p n
theorem ahV(p:Nat->Bool):cnt p 0=0:=by rw[cnt];rfl
theorem ag7(p:Nat->Bool)(n:Nat):cnt p (n+1)=cnt p n+(if p n=true then 2^n else 0):=by rw[cnt,cnt];rfl
theorem aiI(p:Nat->Bool):∀n,cnt p n<2^n
 |0=>by rw[ahV];decide
 |n+1=>by
  have h:=aiI p n
  rw[ag7,Nat.pow_succ]
  split<;>omega
theorem aiZ(p:Nat->Bool):∀n i,(cnt p n).testBit i=(decide (i<n)&&p i)
 |0,i=>by rw[ahV];simp
 |n+1,i=>by
  have h:=aiI p n
  have ih:=aiZ p n i
  rw[ag7]
  by_cases hp:p n=true
  ·rw[if_pos hp,Nat.add_comm]
   rcases Nat.lt_trichotomy i n with hi | hi | hi
   ·rw[Nat.testBit_two_pow_add_gt hi,ih]
    simp[hi,Nat.lt_succ_of_lt hi]
   ·subst hi
    rw[Nat.testBit_two_pow_add_eq,ih]
    simp[hp]
   ·have h2:2^n+cnt p n<2^i:=Nat.lt_of_lt_of_le (by rw[Nat.pow_succ];omega) (Nat.pow_le_pow_right (by decide) hi)
    rw[Nat.testBit_lt_two_pow h2]
    have:¬i<n+1:=by omega
    simp[this]
  ·rw[if_neg hp,Nat.add_zero,ih]
   by_cases e:i=n
   ·subst e
    simp[hp]
   ·have:(i<n+1)↔(i<n):=by omega
    simp[this]
def tb(m:Int)(i:Nat):Bool:=m.toNat.testBit i
theorem aaZ(k:Nat):((2^k:Nat):Int)=(2:Int)^k:=by rw[Int.natCast_pow];rfl
theorem abI(k:Nat):(0:Int)<2^k:=by rw[←aaZ];exact Int.natCast_pos.mpr (Nat.two_pow_pos k)
theorem ajK{m:Int}(h:0<=m)(k:Nat):m / 2^k=((m.toNat >>> k:Nat):Int):=by
 obtain⟨n,rfl⟩:=Int.eq_ofNat_of_zero_le h
 rw[Int.toNat_natCast,Nat.shiftRight_eq_div_pow,←aaZ,Int.natCast_ediv]
theorem ajM(a b:Nat):Builtin.bitAnd (a:Int) (b:Int)=((a&&& b:Nat):Int):=bitAnd_pp (Int.natCast_nonneg a) (Int.natCast_nonneg b)
theorem alQ(a b:Nat):Builtin.bitOr (a:Int) (b:Int)=((a||| b:Nat):Int):=by
 rw[bitOr_and,ajM]
 have:=nat_or_add_and a b
 omega
theorem ajB{m:Int}(h:0<=m)(k:Nat):(Builtin.bitAnd (m / 2^k) 1=1)↔tb m k=true:=by
 rw[ajK h,show (1:Int)=((1:Nat):Int) from rfl,ajM]
 unfold tb
 rw[Nat.testBit_eq_decide_div_mod_eq,Nat.shiftRight_eq_div_pow]
 have:m.toNat / 2^k&&& 1=m.toNat / 2^k%2:=Nat.and_two_pow_sub_one_eq_mod _ 1
 rw[this]
 simp only[decide_eq_true_eq]
 omega
theorem adG{a b:Int}(ha:0<=a)(hb:0<=b):0<=Builtin.bitAnd a b:=by rw[bitAnd_pp ha hb];exact Int.natCast_nonneg _
theorem aeU{a b:Int}(ha:0<=a)(hb:0<=b):0<=Builtin.bitOr a b:=by
 obtain⟨x,rfl⟩:=Int.eq_ofNat_of_zero_le ha
 obtain⟨y,rfl⟩:=Int.eq_ofNat_of_zero_le hb
 rw[alQ]
 exact Int.natCast_nonneg _
theorem abQ{a b:Int}(ha:0<=a)(hb:0<=b)(i:Nat):tb (Builtin.bitAnd a b) i=(tb a i&&tb b i):=by
 unfold tb
 rw[bitAnd_pp ha hb,Int.toNat_natCast,Nat.testBit_and]
theorem ahA{a b:Int}(ha:0<=a)(hb:0<=b)(i:Nat):tb (Builtin.bitOr a b) i=(tb a i||tb b i):=by
 obtain⟨x,rfl⟩:=Int.eq_ofNat_of_zero_le ha
 obtain⟨y,rfl⟩:=Int.eq_ofNat_of_zero_le hb
 unfold tb
 rw[alQ,Int.toNat_natCast,Nat.testBit_or,Int.toNat_natCast,Int.toNat_natCast]
theorem adI(k i:Nat):tb (2^k) i=decide (k=i):=by
 unfold tb
 rw[←aaZ,Int.toNat_natCast,Nat.testBit_two_pow]
theorem aaN(i:Nat):tb 0 i=false:=by unfold tb;simp
theorem aaS{a b:Int}(ha:0<=a)(hb:0<=b)(h:∀i,tb a i=tb b i):a=b:=by
 have:a.toNat=b.toNat:=Nat.eq_of_testBit_eq h
 omega
theorem apY{m:Int}(h:0<=m)(k i:Nat):tb (m / 2^k) i=tb m (k+i):=by
 rw[ajK h]
 unfold tb
 rw[Int.toNat_natCast,Nat.testBit_shiftRight]
theorem abC{m:Int}{n i:Nat}(h:m<2^n)(hi:n<=i):tb m i=false:=by
 unfold tb
 refine Nat.testBit_lt_two_pow (Nat.lt_of_lt_of_le ?_ (Nat.pow_le_pow_right (by decide) hi))
 by_cases h0:0<=m
 ·have:=aaZ n
  omega
 ·have:m.toNat=0:=by omega
  rw[this]
  exact Nat.two_pow_pos n
@[irreducible] def mk_(p:Nat->Bool)(n:Nat):Int:=(cnt p n:Nat)
theorem ak0(p:Nat->Bool)(n:Nat):mk_ p n=(cnt p n:Nat):=by rw[mk_]
theorem acY(p:Nat->Bool)(n:Nat):0<=mk_ p n:=by rw[ak0];exact Int.natCast_nonneg _
theorem adP(p:Nat->Bool)(n i:Nat):tb (mk_ p n) i=(decide (i<n)&&p i):=by
 unfold tb
 rw[ak0,Int.toNat_natCast,aiZ]
theorem ah1(p:Nat->Bool)(n:Nat):mk_ p n<2^n:=by
 have:=aiI p n
 have e:=aaZ n
 rw[ak0]
 omega
theorem an4(n i:Nat):tb (2^n-1) i=decide (i<n):=by
 have h:=aaZ n
 have:((2:Int)^n-1).toNat=2^n-1:=by
  have:=Nat.two_pow_pos n
  omega
 unfold tb
 rw[this,Nat.testBit_two_pow_sub_one]
def asY(p:Nat->Bool)(lo:Int):Nat->List Int
 |0=>[]
 |n+1=>asY p lo n++(if p n=true then [lo+(n:Int)] else [])
@[irreducible] def flt(p:Nat->Bool)(lo:Int)(n:Nat):List Int:=asY p lo n
theorem ab5(p:Nat->Bool)(lo:Int):flt p lo 0=[]:=by rw[flt];rfl
theorem anE{p:Nat->Bool}{lo:Int}{α:Type}{f:Int->α}:[]=(flt p lo 0).map f:=by rw[ab5];rfl
theorem ahS(p:Nat->Bool)(lo:Int)(n:Nat):flt p lo (n+1)=flt p lo n++(if p n=true then [lo+(n:Int)] else []):=by rw[flt,flt];rfl
theorem ac9{p:Nat->Bool}{lo:Int}{n:Nat}(h:p n=true):flt p lo (n+1)=flt p lo n++[lo+(n:Int)]:=by
 rw[ahS,if_pos h]
theorem adE{p:Nat->Bool}{lo:Int}{n:Nat}(h:p n=false):flt p lo (n+1)=flt p lo n:=by
 rw[ahS,h,if_neg Bool.false_ne_true,List.append_nil]
theorem ag0(p:Nat->Bool)(lo:Int):∀n,(flt p lo n).length<=n
 |0=>by rw[ab5];exact Nat.le_refl _
 |n+1=>by
  have h:=ag0 p lo n
  by_cases c:p n=true
  ·rw[ac9 c,List.length_append,List.length_singleton];omega
  ·rw[adE (by simpa using c)];omega
theorem flt_mem{p:Nat->Bool}{lo z:Int}:∀{n:Nat},z∈flt p lo n↔∃i,i<n/\p i=true/\z=lo+(i:Int)
 |0=>by rw[ab5];exact⟨fun h=>(nomatch h),fun ⟨i,h,_⟩=>absurd h (Nat.not_lt_zero i)⟩
 |n+1=>by
  by_cases c:p n=true
  ·rw[ac9 c,List.mem_append,flt_mem,List.mem_singleton]
   refine⟨fun h=>?_,fun ⟨i,h1,h2,h3⟩=>?_⟩
   ·rcases h with ⟨i,h1,h2,h3⟩ | h
    ·exact⟨i,by omega,h2,h3⟩
    ·exact⟨n,by omega,c,h⟩
   ·by_cases e:i=n
    ·subst e;exact .inr h3
    ·exact .inl ⟨i,by omega,h2,h3⟩
  ·rw[adE (by simpa using c),flt_mem]
   refine⟨fun ⟨i,h1,h2,h3⟩=>⟨i,by omega,h2,h3⟩,fun ⟨i,h1,h2,h3⟩=>⟨i,?_,h2,h3⟩⟩
   have:i≠n:=fun e=>c (e▸h2)
   omega
theorem ao6{p:Nat->Bool}{lo:Int}{n k:Nat}(h:∀i,n<=i->p i=false)(hk:n<=k):flt p lo k=flt p lo n:=by
 obtain⟨d,rfl⟩:=Nat.exists_eq_add_of_le hk
 clear hk
 induction d with
 |zero=>rfl
 |succ d ih=>rw[show n+(d+1)=(n+d)+1 from rfl,adE (h _ (by omega)),ih]
def aaI(zs:List Int):Int:=zs.foldl (fun a z=>Builtin.bitOr a (1*2^z.toNat)) 0
theorem aeY(zs:List Int)(z:Int):aaI (zs++[z])=Builtin.bitOr (aaI zs) (1*2^z.toNat):=by unfold aaI;rw[List.foldl_append];rfl
theorem agK:∀(zs:List Int) (a:Int),0<=a->0<=zs.foldl (fun a z=>Builtin.bitOr a (1*2^z.toNat)) a/\∀i,tb (zs.foldl (fun a z=>Builtin.bitOr a (1*2^z.toNat)) a) i=(tb a i||zs.any fun z=>decide (z.toNat=i))
 |[],a,h=>⟨h,fun i=>by simp⟩
 |z::zs,a,h=>by
  have e:(1*2^z.toNat:Int)=2^z.toNat:=by omega
  have p:=Int.le_of_lt (abI z.toNat)
  obtain⟨h1,h2⟩:=agK zs (Builtin.bitOr a (1*2^z.toNat)) (by rw[e];exact aeU h p)
  refine⟨h1,fun i=>?_⟩
  show tb (zs.foldl _ (Builtin.bitOr a (1*2^z.toNat))) i=_
  rw[h2 i,e,ahA h p,adI,List.any_cons,Bool.or_assoc]
theorem aaM(zs:List Int):0<=aaI zs:=(agK zs 0 (Int.le_refl 0)).1
theorem aaQ(zs:List Int)(i:Nat):tb (aaI zs) i=zs.any fun z=>decide (z.toNat=i):=by
 have h:=(agK zs 0 (Int.le_refl 0)).2 i
 rw[aaN,Bool.false_or] at h
 exact h
theorem aoD(p:Nat->Bool)(n i:Nat):((flt p 0 n).any fun z=>decide (z.toNat=i))=(decide (i<n)&&p i):=by
 rw[Bool.eq_iff_iff,List.any_eq_true,Bool.and_eq_true,decide_eq_true_eq]
 refine⟨fun ⟨z,h1,h2⟩=>?_,fun ⟨h1,h2⟩=>⟨0+(i:Int),flt_mem.mpr ⟨i,h1,h2,rfl⟩,decide_eq_true (by omega)⟩⟩
 obtain⟨j,j1,j2,rfl⟩:=flt_mem.mp h1
 have h2:(0+(j:Int)).toNat=i:=of_decide_eq_true h2
 have:j=i:=by omega
 subst this
 exact⟨j1,j2⟩
theorem afT(p:Nat->Bool)(n:Nat):aaI (flt p 0 n)=mk_ p n:=
 aaS (aaM _) (acY _ _) fun i=>by rw[aaQ,adP,aoD]
theorem ai3{m:Int}(h:0<=m):m<2^Builtin.Int.intBits m:=by
 unfold Builtin.Int.intBits
 split
 ·rename_i c
  have:m=0:=by simpa using c
  rw[this]
  decide
 ·have:=Nat.lt_log2_self (n:=m.natAbs)
  have e:=aaZ (m.natAbs.log2+1)
  omega
theorem aiY{m:Int}{n:Nat}(h:0<=m)(hn:m<2^n):Builtin.Int.intBits m<=n:=by
 unfold Builtin.Int.intBits
 split
 ·exact Nat.zero_le _
 ·rename_i c
  have h0:m≠0:=by simpa using c
  have e:=aaZ n
  have:m.natAbs.log2<n:=(Nat.log2_lt (by omega)).mpr (by omega)
  omega
def agW(m:Int):List Int:=flt (tb m) 0 (Builtin.Int.intBits m)
theorem anQ{m:Int}{n:Nat}(h:0<=m)(hn:m<2^n):agW m=flt (tb m) 0 n:=
 (ao6 (fun i hi=>abC (ai3 h) hi) (aiY h hn)).symm
theorem ajS{m:Int}(h:0<=m)(k:Nat):decide (Builtin.bitAnd (m / 2^k) 1=1)=tb m k:=by
 by_cases c:tb m k=true
 ·rw[c];exact decide_eq_true ((ajB h _).mpr c)
 ·have c':tb m k=false:=by simpa using c
  rw[c'];exact decide_eq_false fun q=>c ((ajB h _).mp q)
end L2
namespace L2
open PySem PyProof.Rows
def adU(m:Int):Nat->List (Nat×Nat)->Prop
 |lo,[]=>∀j,lo<=j->tb m j=false
 |lo,(s,e)::r=>lo<=s/\(∀j,lo<=j->j<s->tb m j=false)/\s<=e/\(∀j,s<=j->j<=e->tb m j=true)/\tb m (e+1)=false/\adU m (e+2) r
def arY(m:Int)(s e:Nat):Prop:=s<=e/\(∀j,s<j->j<=e->tb m j=true)/\tb m (e+1)=false
section
variable{X:Cx}{tg:Expr}
end
section
variable{X:Cx}
def rBL:V->List V->Hp->VK->Prop:=fun x vs H Q=>∃i,x=.int i/\vs=[]/\Q (.int (Builtin.Int.intBits i:Nat)) H
theorem arC:MtR X "int.bit_length" rBL:=by
 intro pins s σ H x xs v us Q I rx rv h
 obtain⟨i,rfl,rfl,q⟩:=h
 cases rv
 obtain⟨t,rfl⟩:=rx
 exact call_int_bit_length ⟨.int _,H,I.tok _,⟨_,rfl⟩,q⟩
theorem eBL{o:Expr}{to:TE}{apos cpos:Pos}(ho:E X o to)(hbase:attributeBase o "bit_length" X.env (eval o X.env)=eval o X.env:=by rfl)(hline:(apos.endLine==cpos.line)=true:=by rfl):
  E X (.Call (.Attribute o "bit_length" apos) [] [] cpos) (asM X.K "int" rBL to):=⟨apQ PySem.F.plainAttrs_int PySem.F.slot_int_bit_length PySem.F.type_int_bit_length arC ho.h hbase hline⟩
theorem cLL:Cl1 X (.builtin "isinstance") (fun xs H Q=>∃(a:Addr) (ys:List V),xs=[.ref a,.ty "list"]/\SqL X.K H a ys/\Q (.bl true) H):=by
 refine⟨fun pins s σ H xs us Q I r h=>?_⟩
 obtain⟨a,ys,rfl,hs,q⟩:=h
 obtain⟨u,w',rfl,r1,r2⟩:=asE r
 cases r1
 cases r2
 obtain⟨its,rv,pl,_⟩:=I.list hs
 obtain⟨o,ho,hc,_⟩:=pl.isList
 exact PySem.IsiPair.list_list ho hc ⟨.bl true,H,I,rfl,q⟩
theorem oInv:Op1 X (unaryOp .Invert) (rU fun i=>.int (Builtin.bitNot i)):=⟨apX⟩
theorem oIn:Op2 X (compareOp .In) (rIn X.K false):=⟨akS⟩
end
theorem Same.none{H H':Hp}{D:Addr}(s:Same H H')(h:H' D=none):H D=none:=by
 cases e:H D with
 |none=>rfl
 |some o=>exact absurd (h.symm.trans (s _ _ e)) (by simp)
def Keep(H H':Hp):Prop:=∀b o,(∀xs,o≠ .lst xs)->H b=some o->H' b=some o
theorem Same.keep{H H':Hp}(s:Same H H'):Keep H H':=fun b o _ h=>s b o h
theorem Keep.trans{H H1 H2:Hp}(a:Keep H H1)(b:Keep H1 H2):Keep H H2:=fun c o n h=>b c o n (a c o n h)
theorem ac1{H:Hp}{D:Addr}{l l':List V}(h:H D=some (.lst l)):Keep H (upd H D (.lst l')):=fun b o n hb=>by
 by_cases e:b=D
 ·subst e
  rw[h] at hb
  cases hb
  exact absurd rfl (n l)
 ·rw[aaF e]
  exact hb
theorem Keep.tup{H H':Hp}(k:Keep H H'){b:Addr}{xs:List V}(h:H b=some (.tup xs)):H' b=some (.tup xs):=k b _ (fun _ z=>nomatch z) h
theorem Keep.ins{H H':Hp}(k:Keep H H'){b C dx:Addr}{fs:List (Str×V)}(h:H b=some (.ins C dx fs)):H' b=some (.ins C dx fs):=k b _ (fun _ z=>nomatch z) h
section
variable{js:List Nat}{σ:St}{tt:TT}{te:TE}{Q:VK}{H1:Hp}
theorem abS{K:PySem.W.Frag}{a:Addr}{xs:List V}(R:Nat->List V->Hp->Prop)(hm:∀i l H H',Keep H H'->R i l H->R i l H')(hn:xs.length<=sizeLine)(h0:R 0 [] H1)(hq:SqL K H1 a xs)
  (hs:∀(i:Nat) (v:V) (l:List V) (D:Addr) (H2:Hp) (E:V->Hp->Prop) (F:Hp->Prop),xs[i]? =some v->R i l H2->H1 D=none->Same H1 H2->H2 D=some (.lst l)->(∀y H5,Same H2 H5->R (i+1) (l++[y]) H5->E y H5)->(∀H4,Same H2 H4->R (i+1) l H4->F H4)->
   tt (some v::aaH js σ) H2 fun b H4=>if b=true then te (some v::aaH js σ) H4 E else F H4)
  (hd:∀(D:Addr) (H2:Hp) (l:List V),R xs.length l H2->H1 D=none->Same H1 H2->H2 D=some (.lst l)->Q (.ref D) H2):ahO (Itl K a) js σ tt te Q H1:=by
 intro D hD
 refine⟨fun i m H2=>m=xs.length-i/\i<=xs.length/\Same H1 H2/\∃l,H2 D=some (.lst l)/\l.length<=i/\R i l H2,⟨xs.length,by simp,Nat.zero_le _,aaB hD _,[],aaA,Nat.le_refl _,hm _ _ _ _ (aaB hD _).keep h0⟩,?_⟩
 rintro i m H2 ⟨rfl,hi,s2,l,h2,hll,hR⟩
 by_cases hlt:i<xs.length
 ·refine .inr ⟨⟨xs,xs[i],s2.seq hq,by simp[hlt]⟩,fun v H3 y=>?_⟩
  obtain⟨e,ev⟩:=y
  subst e
  have hv:=ev xs (s2.seq hq)
  refine hs i v l D _ _ _ hv hR hD s2 h2 (fun z H5 s5 r5=>?_) (fun H4 s4 r4=>?_)
  ·refine⟨l,s5 _ _ h2,Nat.lt_of_le_of_lt hll (Nat.lt_of_lt_of_le hlt hn),xs.length-(i+1),by omega,rfl,hlt,fun b o hb=>?_,l++[z],aaA,by rw[List.length_append,List.length_singleton];omega,hm _ _ _ _ (ac1 (s5 _ _ h2)) r5⟩
   rw[aaF (aaE hb hD)]
   exact s5 _ _ (s2 _ _ hb)
  ·exact⟨xs.length-(i+1),by omega,rfl,hlt,s2.trans s4,l,s4 _ _ h2,by omega,r4⟩
 ·have e:i=xs.length:=by omega
  subst e
  exact .inl ⟨⟨xs,s2.seq hq,Nat.le_refl _⟩,hd D H2 l hR hD s2 h2⟩
end
section
variable{X:Cx}{K:PySem.W.Frag}
theorem xLc(hK:X.K=K:=by rfl):Ixs X (ap7 K):=hK▸xL
theorem aoU(hK:X.K=K:=by rfl):Cl1 X (.builtin "len") (fun xs H Q=>∃p ys,xs=[.ref p]/\(SqL K H p ys∨SqT K H p ys)/\Q (.int ys.length) H):=hK▸agT
end
end L2
namespace L2
open PySem PySem.Spec PyProof.Rows PySem.Builtin PySem.Builtin.Str
abbrev Tx(l:List Nat):Str:=⟨l.toArray⟩
section
variable{X:Cx}{tg:Expr}
end
section
variable{js:List Nat}{σ:St}{tt:TT}{te:TE}{Q:VK}{H1:Hp}
end
section
variable{X:Cx}
theorem ahF{prog:Program}{w:World}{A:Around}{its:Array Value}{bs:List Bool}(r:Vals (bs.map V.bl) its.toList):TruthOf prog w A (fun i v=>its[i]? =some v) (fun i=>bs.getD i false):=by
 intro i v s Q E hv hq
 have hv':its.toList[i]? =some v:=by rw[Array.getElem?_toList];exact hv
 have hi:i<bs.length:=by
  have h1:=r.length
  rw[List.length_map] at h1
  rcases Nat.lt_or_ge i its.toList.length with z | z
  ·omega
  ·rw[List.getElem?_eq_none z] at hv';cases hv'
 obtain⟨u,hu,ru⟩:=r.get (i:=i) (x:=V.bl bs[i]) (by rw[List.getElem?_map,List.getElem?_eq_getElem hi];rfl)
 rw[hv'] at hu
 cases hu
 cases ru
 have e:bs.getD i false=bs[i]:=by simp[List.getD,List.getElem?_eq_getElem hi]
 have hq:Q (bs.getD i false) s:=hq
 rw[e] at hq
 exact wpAny_truthy_bool hq
theorem akG(bs:List Bool):(List.range bs.length).any (fun i=>bs.getD i false)=bs.any id:=by
 rw[Bool.eq_iff_iff,List.any_eq_true,List.any_eq_true]
 refine⟨fun ⟨i,hi,h⟩=>?_,fun ⟨b,hb,h⟩=>?_⟩
 ·have hi:=List.mem_range.mp hi
  rw[show bs.getD i false=bs[i] by simp[List.getD,List.getElem?_eq_getElem hi]] at h
  exact⟨_,List.getElem_mem hi,h⟩
 ·obtain⟨i,hi,e⟩:=List.getElem_of_mem hb
  refine⟨i,List.mem_range.mpr hi,?_⟩
  rw[show bs.getD i false=bs[i] by simp[List.getD,List.getElem?_eq_getElem hi],e]
  exact h
theorem cAny(hc:X.calm=true:=by rfl):Cl1 X (.builtin "any") (fun xs H Q=>∃(p:Addr) (bs:List Bool),xs=[.ref p]/\SqL X.K H p (bs.map V.bl)/\Q (.bl (bs.any id)) H):=by
 refine⟨fun pins s σ H xs us Q I r h=>?_⟩
 obtain⟨p,bs,rfl,hq,q⟩:=h
 obtain⟨u,rfl,r1⟩:=adQ r
 cases r1
 obtain⟨its,rv,pl,hz⟩:=I.list hq
 have hne:p≠s.heap.objs.size:=by
  obtain⟨o,ho,_⟩:=pl.isList
  exact Nat.ne_of_lt (Heap.lt_size ho)
 refine call_any_walk (wpAny_pyIter_list pl.isList ⟨s.heap.objs.size,[s.heap.objs.size,p],[s.heap.objs.size],its.toArray.size,(fun i v=>its.toArray[i]? =some v),(fun i h=>h.IsListIter s.heap.objs.size p i/\h.IsList p its.toArray),(fun i=>bs.getD i false),rfl,Walks.list (prog:=X.prog) (w:=X.w) (A:=X.A.in1) (I.ok.hd hc) _ p hne its.toArray,⟨⟨_,Heap.get?_push_size _ rfl,rfl,rfl⟩,pl.isList.push _⟩,ahF (by simpa using rv),fun h' tk hk=>?_⟩)
 have hl:=rv.length
 rw[List.length_map] at hl
 have e:its.toArray.size=bs.length:=by rw[List.size_toArray];omega
 rw[e,akG]
 exact⟨.bl _,H,I.kept fun b o eb=>hk b o (by simpa using Nat.ne_of_lt (Heap.lt_size eb)) (Heap.get?_push_of_some _ eb),rfl,q⟩
end
end L2
namespace L2
open PySem PySem.Spec PyProof.Rows PySem.Builtin PySem.Builtin.Str
def spl(c:Nat):List Nat->List (List Nat)
 |[]=>[[]]
 |x::r=>if x=c then []::spl c r else match spl c r with
  |h::t=>(x::h)::t
  |[]=>[[x]]
def abH(c:Nat):List (List Nat)->List Nat
 |[]=>[]
 |[p]=>p
 |p::r=>p++c::abH c r
theorem ac5(c:Nat):∀(p:List Nat),c∉p->spl c p=[p]
 |[],_=>rfl
 |x::r,h=>by
  have h1:¬x=c:=fun e=>h (by simp[e])
  have h2:=ac5 c r fun e=>h (by simp[e])
  unfold spl
  rw[if_neg h1,h2]
theorem ajA(c:Nat):∀(p r:List Nat),c∉p->spl c (p++c::r)=p::spl c r
 |[],r,_=>by
  show spl c (c::r)=_
  unfold spl
  rw[if_pos rfl]
  cases r<;>rfl
 |x::q,r,h=>by
  have h1:¬x=c:=fun e=>h (by simp[e])
  have h2:=ajA c q r fun e=>h (by simp[e])
  show spl c (x::(q++c::r))=_
  rw[spl,if_neg h1,h2]
section
variable{prog:Program}{w:World}{A:Around}{E:Value->Shared->Prop}{s:Shared}{x y:Str}{t u:Tok}{Q:Value->Shared->Prop}
end
section
variable{X:Cx}
end
end L2
namespace L2
open PySem PySem.Spec PyProof.Rows PySem.Builtin PySem.Builtin.Str
section
variable{X:Cx}{pins:List (Addr×Obj)}{σ:St}{H:Hp}{s:Shared}{h':Heap}
theorem Inv.turnT{ch:List Addr}{T:Addr}{o:HO}{t':Nat}(I:Inv X pins σ H s)(k:∀b u,b∉ch->s.heap.get? b=some u->h'.get? b=some u)(hch:∀b∈ch,abF X pins H b)(hT:s.heap.objs.size<=T)(new:ObjOk X.prog X.w (upd H T o) h' T o):
  Inv X pins σ (upd H T o) {s with heap:=h',toks:=t'}:=by
 have hn:=I.hok.fresh hT
 have nit:∀b u,H b=some u->b∉ch:=fun b u e z=>by rw[(hch b z).1] at e;cases e
 refine I.step (g':=s.gens) (d':=s.drawn) (ch:=ch) (fun b hb=>?_) (fun b u _ _ hc e _=>k b u hc e) (fun b u _ _ hc e _=>⟨u.slots,k b u hc e⟩) (fun b u _ e n=>?_)
  (fun b u hc e=>⟨u,k b u hc e⟩) (fun b xs e=>by rw[aaF (aaE e hn)];exact e) (fun b u xs e=>by rw[aaF (aaE e hn)];exact e) (fun b ps e=>⟨#[],by rw[aaF (aaE e hn),e];simp⟩) (fun m hm=>?_) (fun b u e=>?_) I.bare
 ·obtain⟨f0,f1,f2,f3,f4,f5⟩:=hch b hb
  exact⟨f3,f1,f4,f5⟩
 ·rw[aaF (Nat.ne_of_lt (Nat.lt_of_lt_of_le (Heap.lt_size e) hT))]
  exact n
 ·obtain⟨ob,es,ep,ho,r⟩:=hm
  exact⟨ob,es,ep,k _ ob (fun z=>(hch _ z).2.1 rfl) ho,r⟩
 ·by_cases hb:b=T
  ·subst hb;rw[aaA] at e;cases e;exact new
  ·rw[aaF hb] at e
   refine (I.hok b u e).stay (fun c v hc q=>k c v ?_ q) (fun c q=>by rw[aaF (aaE q hn)];exact q) fun c xs q=>by rw[aaF (aaE q hn)];exact q
   rcases hc with z | z
   ·rw[z];exact nit b u e
   ·exact nit c _ z
theorem Inv.turnN{ch:List Addr}{t':Nat}(I:Inv X pins σ H s)(k:∀b u,b∉ch->s.heap.get? b=some u->h'.get? b=some u)(hch:∀b∈ch,abF X pins H b):Inv X pins σ H {s with heap:=h',toks:=t'}:=by
 have nit:∀b u,H b=some u->b∉ch:=fun b u e z=>by rw[(hch b z).1] at e;cases e
 refine I.step (g':=s.gens) (d':=s.drawn) (ch:=ch) (fun b hb=>?_) (fun b u _ _ hc e _=>k b u hc e) (fun b u _ _ hc e _=>⟨u.slots,k b u hc e⟩) (fun b u _ e n=>n)
  (fun b u hc e=>⟨u,k b u hc e⟩) (fun b xs e=>e) (fun b u xs e=>e) (fun b ps e=>⟨#[],by rw[e];simp⟩) (fun m hm=>?_) (fun b u e=>?_) I.bare
 ·obtain⟨f0,f1,f2,f3,f4,f5⟩:=hch b hb
  exact⟨f3,f1,f4,f5⟩
 ·obtain⟨ob,es,ep,ho,r⟩:=hm
  exact⟨ob,es,ep,k _ ob (fun z=>(hch _ z).2.1 rfl) ho,r⟩
 ·refine (I.hok b u e).stay (fun c v hc q=>k c v ?_ q) (fun c q=>q) fun c xs q=>q
  rcases hc with z | z
  ·rw[z];exact nit b u e
  ·exact nit c _ z
end
def Ite(K:PySem.W.Frag)(a:Addr):It:=
 ⟨fun i H=>∃xs x,SqL K H a xs/\xs[i]? =some x,fun i H v H'=>∃T,v=.ref T/\H T=none/\∀xs,SqL K H a xs->∃x,xs[i]? =some x/\H'=upd H T (.tup [.int i,x]),fun i H=>∃xs,SqL K H a xs/\xs.length=i⟩
theorem akN{P:Program}{w:World}{K:PySem.W.Frag}{es:List Expr}{kk:Nat}{pos:Pos}(a e it:Addr)(hne:e≠it):Turn P w K (.Tuple es kk pos) (Ite K a) [e,it] e (fun i h=>(∃old,IsEnum h e it i old)/\h.IsListIter it a i) where
 mem:=by simp
 obj:=fun i h st b hb=>by
  obtain⟨⟨old,he⟩,o,e1,c,d⟩:=st
  rcases List.mem_cons.mp hb with z | z
  ·subst z
   exact⟨_,he,fun v q=>by
    have q':Data.fields _=Data.cell v:=q
    cases q'⟩
  ·have z:b=it:=by simpa using z
   subst z
   exact⟨o,e1,fun v q=>by rw[d] at q;cases q⟩
 keep:=fun i h h' st k=>by
  obtain⟨⟨old,he⟩,hit⟩:=st
  exact⟨⟨old,k e (by simp) _ he⟩,hit.at fun o q=>k it (by simp) o q⟩
 item:=by
  intro X hP hw hK hc i pins s σ H E I hf st hg
  subst hP hw hK
  obtain⟨xs,x,hq,hx⟩:=hg
  obtain⟨⟨old,he⟩,hit⟩:=st
  obtain⟨its,rv,p,hz⟩:=I.list hq
  obtain⟨u,hu,ru⟩:=rv.get hx
  refine wpAny_pyNext_enum_item he hit p.isList (x:=u) (by simpa using hu) hne fun h1 ho hit1 hT hsz hk=>?_
  refine⟨_,rfl,wpAny_letOwnedTupleGo_enum ho fun h2 he2 sb=>?_⟩
  have ele:e<s.heap.objs.size:=Heap.lt_size he
  have k2:∀b ob,b∉[e,it]->s.heap.get? b=some ob->h2.get? b=some ob:=fun b ob hb q=>by
   have n1:b≠e:=fun z=>hb (by simp[z])
   have n2:b≠it:=fun z=>hb (by simp[z])
   exact (sb.2 b n1).trans (hk b ob n1 n2 q)
  have hTn:s.heap.objs.size≠e:=Nat.ne_of_gt ele
  have hT2:h2.get? s.heap.objs.size=some {cls:=.type "tuple",data:=.seq #[.int i s.toks,u]}:=(sb.2 _ hTn).trans hT
  have hn:=I.hok.fresh (Nat.le_refl s.heap.objs.size)
  have I2:Inv X pins σ (upd H s.heap.objs.size (.tup [.int i,x])) {s with heap:=h2,toks:=s.toks+1}:=I.turnT k2 hf (Nat.le_refl _) ⟨by show 2<=sizeLine;decide,[.int i s.toks,u],.cons ⟨_,rfl⟩ (.cons ru .nil),⟨_,hT2,rfl,_,rfl⟩⟩
  refine⟨.ref s.heap.objs.size,_,I2,rfl,⟨s.heap.objs.size,rfl,hn,fun ys hy=>⟨x,by rw[I.list_inj hy hq];exact hx,rfl⟩⟩,⟨⟨_,by simpa using he2⟩,hit1.at fun o q=>(sb.2 it (Ne.symm hne)).trans q⟩,fun b hb=>?_⟩
  have hblt:b<s.heap.objs.size:=by
   rcases List.mem_cons.mp hb with z | z
   ·rw[z];exact ele
   ·have z:b=it:=by simpa using z
    obtain⟨o,q,_⟩:=hit
    rw[z];exact Heap.lt_size q
  rw[aaF (Nat.ne_of_lt hblt)]
  exact (hf b hb).1
 done:=by
  intro X hP hw hK hc i pins s σ H E I hf st hg
  subst hP hw hK
  obtain⟨xs,hq,hx⟩:=hg
  obtain⟨⟨old,he⟩,hit⟩:=st
  obtain⟨its,rv,p,hz⟩:=I.list hq
  have hl:=rv.length
  refine wpAny_pyNext_enum_end (I.ok.hd hc) he hit p.isList (by simp;omega) fun h' hk=>⟨rfl,?_⟩
  exact I.turnN (ch:=[e,it]) (t':=s.toks) (fun b ob hb q=>hk b ob (fun z=>hb (by simp[z])) q) hf
 self:=fun _ _ _ _ _ st h=>by
  obtain⟨⟨old,he⟩,_⟩:=st
  exact wpAny_pyIter_enum he h
section
variable{X:Cx}{es:List Expr}{kk:Nat}{tpos:Pos}
def arQ(K:PySem.W.Frag)(tl:TE):TI:=fun σ H R=>tl σ H fun x H1=>∃a,x=.ref a/\(∃xs,SqL K H1 a xs)/\R (Ite K a) H1
theorem akF:bootBuiltins "enumerate"=some (.type "enumerate"):=by decide +kernel
theorem iE{l:Expr}{tl:TE}{p pos:Pos}(hm:X.mg "enumerate"=none)(hl:E X l tl)(hg:Gl X "enumerate":=by rfl)(hs:starEach [l] X.env=[(false,eval l X.env)]:=by rfl):
  Il X (.Tuple es kk tpos) (.Call (.Name "enumerate" p) [l] [] pos) (arQ X.K tl):=by
 refine⟨fun pins s σ H R I h=>?_⟩
 have hA:PA X [l] (afY tl aj3):=acG hl.h adM hs
 refine Call_ (aeR I hg hm akF (PyProof.Rows.callWith_type1 (thn (hA pos pins s σ H (fun vs H1=>match vs with | [x]=>∃a,x=.ref a/\(∃xs,SqL X.K H1 a xs)/\R (Ite X.K a) H1 | _=>False) I ?_) fun us s1 ⟨vs,H1,I1,r1,q1⟩=>?_) hs rfl))
 ·exact h
 match vs,q1,r1 with
 |[x],q1,r1=>?_
 obtain⟨a,rfl,⟨xs,hq⟩,q⟩:=q1
 obtain⟨u,rfl,rx⟩:=adQ r1
 cases rx
 obtain⟨its,rv,pl,hz⟩:=I1.list hq
 refine call_enumerate_list pl.isList fun h' he hit hsz hk=>?_
 refine wpAny_pyIter_enum he ?_
 have I2:Inv X pins σ H1 {s1 with heap:=h'}:=I1.kept (t':=s1.toks) hk
 have hne:s1.heap.objs.size+1≠s1.heap.objs.size:=Nat.ne_of_gt (Nat.lt_succ_self _)
 refine⟨s1.heap.objs.size+1,[s1.heap.objs.size+1,s1.heap.objs.size],_,_,H1,rfl,I2,akN a _ _ hne,⟨⟨_,he⟩,hit⟩,fun b hb=>?_,q⟩
 have hb2:s1.heap.objs.size<=b:=by
  rcases List.mem_cons.mp hb with z | z
  ·rw[z];exact Nat.le_succ _
  ·have z:b=s1.heap.objs.size:=by simpa using z
   rw[z];exact Nat.le_refl _
 exact I1.fpOk hb2 (I1.hok.fresh hb2)
end
theorem amP{K:PySem.W.Frag}{a:Addr}{xs:List V}{g:TG}{tb:TS}{D:Ends}{σ:St}{H:Hp}(Pv:Nat->St->Hp->Prop)(h0:Pv 0 σ H)(hl:∀i σ H,i<=xs.length->Pv i σ H->SqL K H a xs)
  (hs:∀i x σ H T,xs[i]? =some x->Pv i σ H->H T=none->g (.ref T) σ (upd H T (.tup [.int i,x])) fun σ2 H2=>tb {D with nx:=Pv (i+1),ct:=Pv (i+1),bk:=D.nx} σ2 H2) (hd:∀σ H,Pv xs.length σ H->D.nx σ H):
  ∃W:Nat->Nat->St->Hp->Prop,(∃m,W 0 m σ H)/\∀i m σ H,W i m σ H->
   ((Ite K a).stop i H/\D.nx σ H)∨((Ite K a).go i H/\∃N:St->Hp->Prop,(∀σ' H',N σ' H'->∃m',m'<m/\W (i+1) m' σ' H')/\∀x H',(Ite K a).yld i H x H'->g x σ H' fun σ2 H2=>tb {D with nx:=N,ct:=N,bk:=D.nx} σ2 H2):=by
 refine⟨fun i m σ H=>m=xs.length-i/\i<=xs.length/\Pv i σ H,⟨xs.length,by simp,Nat.zero_le _,h0⟩,?_⟩
 rintro i m σ H ⟨rfl,hi,p⟩
 have hq:=hl i σ H hi p
 by_cases hlt:i<xs.length
 ·refine .inr ⟨⟨xs,xs[i],hq,by simp[hlt]⟩,Pv (i+1),fun σ' H' p'=>⟨xs.length-(i+1),by omega,rfl,hlt,p'⟩,fun x H' y=>?_⟩
  obtain⟨T,rfl,hT,hy⟩:=y
  obtain⟨x,hx,rfl⟩:=hy xs hq
  exact hs i x σ H T hx p hT
 ·have e:i=xs.length:=by omega
  subst e
  exact .inl ⟨⟨xs,hq,rfl⟩,hd σ H p⟩
def num(m:Nat):List Nat:=(Nat.toDigits 10 m).map Char.toNat
section
variable{X:Cx}
end
end L2
namespace L2
open PySem PySem.Spec PyProof.Rows PySem.Builtin PySem.Builtin.Str
section
variable{X:Cx}{pos:Pos}
end
def al3(c:Nat):Bool:=decide (48<=c)&&decide (c<=57)
def allF(l:List Nat):Bool:= !decide (l=[])&&l.all al3
def isW(l:List Nat):Bool:=allF l&&(decide (l=[48])|| !decide (l.headD 0=48))
def dv(l:List Nat):Int:=((PySem.NumText.digitsVal l:Nat):Int)
def ab9(lo hi:Int)(l:List Nat):Option Int:=if isW l=true then (if lo<=dv l/\dv l<=hi then some (dv l) else none) else none
def alT(es:List (Option Int)):Option (Int×Int):=match es with
 |[some a]=>some (a,a)
 |[some a,some b]=>if b<a then none else some (a,b)
 |_=>none
def abN(lo hi:Int)(l:List Nat):Option (Int×Int):=if l=[42] then some (lo,hi) else alT ((spl 45 l).map (ab9 lo hi))
@[irreducible] def adZ(a b s:Int):List Int:=(List.range (Builtin.Range.rangeSize a (b+1) s).toNat).map fun i:Nat=>a+(i:Int)*s
theorem agC(a b s:Int):adZ a b s=(List.range (Builtin.Range.rangeSize a (b+1) s).toNat).map fun i:Nat=>a+(i:Int)*s:=by rw[adZ]
def acS(a b s:Int):Int:=aaI (adZ a b s)
def anC(lo hi:Int)(r s:List Nat):Option Int:=
 match abN lo hi r,ab9 1 99 s with
 |some (a,b),some st=>some (acS a (if isW r=true then hi else b) st)
 |_,_=>none
def aaV(lo hi:Int)(l:List Nat):Option Int:=
 match spl 47 l with
 |[r,s]=>anC lo hi r s
 |_=>match abN lo hi l with
  |some (a,b)=>some (acS a b 1)
  |none=>none
theorem ag2{a b s:Int}(hs:0<s):Builtin.Range.rangeSize a (b+1) s=if a<=b then (b-a) / s+1 else 0:=by
 unfold Builtin.Range.rangeSize
 rw[if_pos hs]
 by_cases c:a<=b
 ·rw[if_pos c,if_pos (by omega),show b+1-a-1=b-a by omega]
 ·rw[if_neg c,if_neg (by omega)]
theorem ad6{a b s z:Int}(hs:0<s):z∈adZ a b s↔a<=z/\z<=b/\(z-a)%s=0:=by
 rw[agC,List.mem_map,ag2 hs]
 refine⟨fun ⟨i,hi,e⟩=>?_,fun ⟨h1,h2,h3⟩=>?_⟩
 ·subst e
  by_cases c:a<=b
  ·rw[if_pos c,List.mem_range] at hi
   have hq:(i:Int)<=(b-a) / s:=by
    have:0<=(b-a) / s:=Int.ediv_nonneg (by omega) (by omega)
    omega
   have hm:(i:Int)*s<=(b-a) / s*s:=Int.mul_le_mul_of_nonneg_right hq (by omega)
   have hd:(b-a) / s*s<=b-a:=Int.ediv_mul_le _ (by omega)
   have h0:0<=(i:Int)*s:=Int.mul_nonneg (by omega) (by omega)
   refine⟨by omega,by omega,?_⟩
   rw[show a+(i:Int)*s-a=(i:Int)*s by omega]
   exact Int.mul_emod_left _ _
  ·rw[if_neg c,List.mem_range] at hi
   exact absurd hi (by simp)
 ·rw[if_pos (by omega)]
  have hd:s*((z-a) / s)+(z-a)%s=z-a:=Int.mul_ediv_add_emod _ _
  rw[h3,Int.add_zero] at hd
  have h0:0<=(z-a) / s:=Int.ediv_nonneg (by omega) (by omega)
  have hle:(z-a) / s<=(b-a) / s:=Int.ediv_le_ediv hs (by omega)
  refine⟨((z-a) / s).toNat,List.mem_range.mpr (by omega),?_⟩
  rw[Int.toNat_of_nonneg h0,Int.mul_comm]
  omega
end L2
namespace L2
open PySem PySem.Spec PyProof.Rows PySem.Builtin PySem.Builtin.Str
def orM(ms:List Int):Int:=ms.foldl (fun a m=>Builtin.bitOr a m) 0
theorem amN(ms:List Int)(m:Int):orM (ms++[m])=Builtin.bitOr (orM ms) m:=by unfold orM;rw[List.foldl_append];rfl
theorem aeZ:∀(ms:List Int) (a:Int),0<=a->(∀m∈ms,0<=m)->0<=ms.foldl (fun a m=>Builtin.bitOr a m) a/\∀i,tb (ms.foldl (fun a m=>Builtin.bitOr a m) a) i=(tb a i||ms.any fun m=>tb m i)
 |[],a,h,_=>⟨h,fun i=>by simp⟩
 |m::ms,a,h,hm=>by
  have hp:=hm m (by simp)
  obtain⟨h1,h2⟩:=aeZ ms (Builtin.bitOr a m) (aeU h hp) fun z hz=>hm z (by simp[hz])
  refine⟨h1,fun i=>?_⟩
  show tb (ms.foldl _ (Builtin.bitOr a m)) i=_
  rw[h2 i,ahA h hp,List.any_cons,Bool.or_assoc]
theorem ad9{ms:List Int}(h:∀m∈ms,0<=m):0<=orM ms:=(aeZ ms 0 (Int.le_refl 0) h).1
theorem aeK{ms:List Int}(h:∀m∈ms,0<=m)(i:Nat):tb (orM ms) i=ms.any fun m=>tb m i:=by
 have:=(aeZ ms 0 (Int.le_refl 0) h).2 i
 rw[aaN,Bool.false_or] at this
 exact this
theorem aiK:∀n:Nat,n<100->isW (num n)=true/\dv (num n)=(n:Int)/\((num n).all fun c=>al3 c)=true/\(num n).length<=2:=by decide +kernel
theorem aa0{n c:Nat}(h:n<100)(hc:al3 c=false):c∉num n:=fun hm=>by
 have:=List.all_eq_true.mp (aiK n h).2.2.1 c hm
 rw[hc] at this
 cases this
theorem aqL{n:Nat}(h:n<100):num n≠[42]:=fun e=>by
 have:=aa0 h (c:=42) (by decide)
 rw[e] at this
 exact this (by simp)
theorem adC{n:Nat}{lo hi:Int}(h:n<100)(h1:lo<=n)(h2:(n:Int)<=hi):ab9 lo hi (num n)=some (n:Int):=by
 obtain⟨a,b,_⟩:=aiK n h
 unfold ab9
 rw[if_pos a,b,if_pos ⟨h1,h2⟩]
theorem am4{n:Nat}{lo hi:Int}(h:n<100)(h1:lo<=n)(h2:(n:Int)<=hi):abN lo hi (num n)=some ((n:Int),(n:Int)):=by
 unfold abN
 rw[if_neg (aqL h),ac5 45 _ (aa0 h (by decide))]
 show alT [ab9 lo hi (num n)]=_
 rw[adC h h1 h2]
 rfl
theorem anL{n m:Nat}{lo hi:Int}(h:n<100)(h':m<100)(h1:lo<=n)(h2:n<=m)(h3:(m:Int)<=hi):abN lo hi (num n++45::num m)=some ((n:Int),(m:Int)):=by
 unfold abN
 rw[if_neg (fun e=>by (have:45∈num n++45::num m:=(by simp));rw[e] at this;simp at this),ajA 45 _ _ (aa0 h (by decide)),ac5 45 _ (aa0 h' (by decide))]
 show alT [ab9 lo hi (num n),ab9 lo hi (num m)]=_
 rw[adC h h1 (by omega),adC h' (by omega) h3]
 show (if (m:Int)<n then none else some ((n:Int),(m:Int)))=_
 rw[if_neg (by omega)]
theorem ahX{lo hi a b:Int}{r:List Nat}(hf:47∉r)(h:abN lo hi r=some (a,b)):aaV lo hi r=some (acS a b 1):=by
 unfold aaV
 rw[ac5 47 r hf,h]
end L2
namespace L2
open PySem PySem.Spec PyProof.Rows PySem.Builtin PySem.Builtin.Str
section
variable{X:Cx}
theorem ai2:Op2 X (binaryOp .Add) (fun x y H Q=>∃(a b:Addr) (xs ys:List V),x=.ref a/\y=.ref b/\SqL X.K H a xs/\SqL X.K H b ys/\xs.length+ys.length<=sizeLine/\∀p,H p=none->Q (.ref p) (upd H p (.lst (xs++ys)))):=by
 refine⟨fun pins s σ H x y v u Q I rx ry h=>?_⟩
 obtain⟨a,b,xs,ys,rfl,rfl,ha,hb,hz,q⟩:=h
 cases rx
 cases ry
 obtain⟨i1,r1,p1,z1⟩:=I.list ha
 obtain⟨i2,r2,p2,z2⟩:=I.list hb
 obtain⟨⟨cls,dd,data,sl⟩,ho,hc,n,hd⟩:=p1.isList
 obtain⟨⟨cls2,dd2,data2,sl2⟩,ho2,hc2,n2,hd2⟩:=p2.isList
 simp only at hc hd hc2 hd2
 subst hc hd hc2 hd2
 have l1:=r1.length
 have l2:=r2.length
 refine concat_meets ⟨_,ho,rfl⟩ ⟨_,ho2,rfl⟩ noFill_list_add seq_list_add PySem.F.slot_list_add PySem.F.entry_list_add (PySem.F.args_list_add_2 _ _) (list_addW a b _ _ n n2 dd dd2 sl sl2 (by simp only[List.size_toArray];omega)) ⟨ho,ho2,?_⟩
 refine⟨.ref s.heap.objs.size,upd H s.heap.objs.size (.lst (xs++ys)),I.laid (t':=s.toks) (fun b u e=>Heap.get?_push_of_some _ e) (Nat.le_refl _) ?_,rfl,q _ (I.hok.fresh (Nat.le_refl _))⟩
 exact⟨by rw[List.length_append];exact hz,i1++i2,0,r1.append r2,by simpa using Heap.get?_push_size _ rfl⟩
end
def aiB(J:It)(k:Nat)(js:List Nat)(g:TG)(σ:St)(tt:TT)(te:TE)(Q:VK)(H1:Hp):Prop:=∀D,H1 D=none->∃W:Nat->Nat->Hp->Prop,(∃m,W 0 m (upd H1 D (.lst [])))/\∀i m H2,W i m H2->
 (J.stop i H2/\Q (.ref D) H2)∨(J.go i H2/\∀v H3,J.yld i H2 v H3->∀τ:St,τ.length=k->g v (τ++aaH js σ) H3 fun σ2 H3'=>(∃τ':St,τ'.length=k/\σ2=τ'++aaH js σ)/\tt σ2 H3' fun b H4=>if b=true then
  te σ2 H4 fun y H5=>∃ys,H5 D=some (.lst ys)/\ys.length<sizeLine/\∃m',m'<m/\W (i+1) m' (upd H5 D (.lst (ys++[y])))
  else ∃m',m'<m/\W (i+1) m' H4)
def agI(wi:TI)(k:Nat)(js:List Nat)(g:TG)(tt:TT)(te:TE):TE:=fun σ H Q=>wi σ H fun J H1=>aiB J k js g σ tt te Q H1
section
variable{X:Cx}{elt iter tg:Expr}{xs:List Str}{y:Str}{py pos spos:Pos}{ifs:List Expr}{scope:Scope}{cl:List (Str×Addr)}{N':List Str}{js:List Nat}{tt:TT}{te:TE}{g:TG}{wi:TI}
theorem ahD{pins:List (Addr×Obj)}{σ:St}{H:Hp}{s s4:Shared}{fp:List Addr}{C:Addr}{m4:Str->Option Value}(hcl:Clos X scope cl)(hN:js.map (fun j=>X.N[j]?)=N'.map some)
  (hk:N'.all (fun y=>(X.env.kindOf y==some .cell)||(X.env.kindOf y==some .free))=true) (hf:N'.all (fun y=>scope.names.lookup y==some .free)=true)
  (I:Inv X pins σ H s) (hfp:∀b∈fp,abF X pins H b/\b<s.heap.objs.size) (hC:C=s.heap.objs.size) (ho:s4.os=s.os) (hg:s4.gens=s.gens) (hkeep:∀b o,s.heap.get? b=some o->s4.heap.get? b=some o) (hn:s4.heap.Ns C m4):
  Inv (aaD X (xs++N') scope cl C fp pins s H) [] (List.replicate xs.length none++aaH js σ) H s4:=by
 have hne:∀b o,s.heap.get? b=some o->b≠C:=fun b o e=>by rw[hC];exact Nat.ne_of_lt (Heap.lt_size e)
 refine⟨⟨I.ok.mod,hcl.kind,I.ok.glob,I.ok.blt,Nat.le_of_eq hC.symm,fun y z c h1 h2=>I.ok.inj y z c (hcl.sub y c h1) (hcl.sub z c h2),fun y hy=>hcl.has y (af3 (fun z=>hcl.nocell _ (PySem.mem_of_lookup z) rfl) (by rw[←abB];exact hy)),fun y c h _=>(nomatch h),I.ok.hd,I.ok.frames,.inl rfl,fun b hb=>⟨?_,fun y c e=>(hfp b hb).1.2.2.2.2.1 y c (hcl.sub y c e)⟩,
  I.bs,Nat.le_trans I.ok.bsz I.sz,fun b o e hb=>?_,fun b hb hz=>?_,I.stack,I.stkFree⟩,ho,by rw[hg];exact I.bare,Un.kept hkeep,⟨m4,hn,fun i y v h1 h2 h3=>?_⟩,fun y c e=>?_,?_,fun y c e=>I.freeC y c (hcl.sub y c e),fun p hp=>?_,I.hok.kept hkeep,?_⟩
 ·rw[hC];exact Nat.ne_of_lt (hfp b hb).2
 ·rcases (hfp b hb).1.2.2.2.1 with z | z
  ·exact I.ok.noex b o e z
  ·exact absurd (Nat.lt_of_lt_of_le (Heap.lt_size e) (Nat.le_trans I.ok.bsz z)) (Nat.lt_irrefl _)
 ·rcases List.mem_cons.mp (I.stkSub b hz) with z | z
  ·exact (hfp b hb).1.2.1 z
  ·exact (hfp b hb).1.2.2.1 z
 ·by_cases hi:i<xs.length
  ·rw[List.getElem?_append_left (by rw[List.length_replicate];exact hi),List.getElem?_replicate,if_pos hi] at h2
   exact nomatch h2
  ·obtain⟨j0,rfl⟩:∃j0,i=xs.length+j0:=⟨i-xs.length,by omega⟩
   have h1:N'[j0]? =some y:=by
    have h1:(xs++N')[xs.length+j0]? =some y:=h1
    rw[List.getElem?_append_right (Nat.le_add_right _ _),Nat.add_sub_cancel_left] at h1
    exact h1
   have h2:(aaH js σ)[j0]? =some (some v):=by rw[List.getElem?_append_right (by rw[List.length_replicate];exact Nat.le_add_right _ _),List.length_replicate,Nat.add_sub_cancel_left] at h2;exact h2
   generalize j0=i at h1 h2
   have hy:y∈N':=List.mem_of_getElem? h1
   have q:(js.map (fun j=>X.N[j]?))[i]? =some (some y):=by rw[hN,List.getElem?_map,h1];rfl
   rw[List.getElem?_map] at q
   cases ej:js[i]? with
   |none=>rw[ej] at q;cases q
   |some j=>
    rw[ej] at q
    have q:X.N[j]? =some y:=Option.some.inj q
    unfold aaH at h2
    rw[List.getElem?_map,ej] at h2
    have h2:(σ[j]?).getD none=some v:=Option.some.inj h2
    have h2:σ[j]? =some (some v):=by
     cases e:σ[j]? with
     |none=>rw[e] at h2;cases h2
     |some o=>rw[e] at h2;exact congrArg some h2
    have kk:=List.all_eq_true.mp hk y hy
    have kk:X.env.kindOf y=some .cell∨X.env.kindOf y=some .free:=by simpa using kk
    have ff:=List.all_eq_true.mp hf y hy
    have ff:scope.names.lookup y=some .free:=by simpa using ff
    obtain⟨m,_,hl⟩:=I.loc
    obtain⟨u,r,l⟩:=hl j y v q h2 (by rcases kk with z | z;exact .inr (.inl z);exact .inr (.inr z))
    refine⟨u,r,.inr ⟨abM ff,?_⟩⟩
    obtain⟨c,hc⟩:=hcl.has y ff
    rcases l with ⟨z,_⟩ | ⟨_,c',e',cell⟩
    ·rcases kk with k | k<;>(rw[k] at z;cases z)
    ·rw[hcl.sub y c hc] at e'
     cases e'
     exact⟨c,hc,cell.keeps hkeep⟩
 ·obtain⟨v,q⟩:=I.cell y c (hcl.sub y c e)
  exact⟨v,q.keeps hkeep⟩
 ·show H C=none
  rw[hC]
  exact I.hok.fresh (Nat.le_refl _)
 ·have hp:p∈X.pn++pins:=by
   have hp:p∈(X.pn++pins)++[]:=hp
   rwa [List.append_nil] at hp
  obtain⟨e,n,ne,nf,d⟩:=I.pin p hp
  refine⟨hkeep _ _ e,n,hne _ _ e,fun z=>?_,d⟩
  rcases List.mem_cons.mp (I.stkSub p.1 z) with z | z
  ·exact ne z
  ·exact nf z
 ·show (List.replicate xs.length none++aaH js σ).length=(xs++N').length
  rw[List.length_append,List.length_append,List.length_replicate]
  have q:=congrArg List.length hN
  rw[List.length_map,List.length_map] at q
  unfold aaH
  rw[List.length_map,q]
theorem akO{pins:List (Addr×Obj)}{σ σ':St}{H H':Hp}{s s':Shared}{fp:List Addr}{C:Addr}(I:Inv X pins σ H s)(hfp:∀b∈fp,abF X pins H b)(J:Inv (aaD X (xs++N') scope cl C fp pins s H) [] σ' H' s'):Inv X pins σ H' s':=
 I.call' (ch:=fp) J.os J.base J.hok J.bare fun b hb=>⟨(hfp b hb).2.2.2.1,(hfp b hb).2.1,(hfp b hb).2.2.2.2.1,(hfp b hb).2.2.2.2.2⟩
theorem ah2{pins:List (Addr×Obj)}{σ:St}{H:Hp}{s:Shared}{Q:VK}{RR:Value->Addr->Result->Shared->Prop}{J:It}{fp:List Addr}{it:Addr}{tn:Nat->Heap->Prop}
  (hcl:Clos X scope cl) (hnd:(xs++N').Nodup) (hN:js.map (fun j=>X.N[j]?)=N'.map some)
  (hk:N'.all (fun y=>(X.env.kindOf y==some .cell)||(X.env.kindOf y==some .free))=true) (hf:N'.all (fun y=>scope.names.lookup y==some .free)=true) (hc:X.calm=true)
  (hg:∀(C:Addr) (ex:List Addr) (pins:List (Addr×Obj)) (s:Shared) (H:Hp),PG (aaD X (xs++N') scope cl C ex pins s H) tg g)
  (ht:∀(C:Addr) (ex:List Addr) (pins:List (Addr×Obj)) (s:Shared) (H:Hp),PF (aaD X (xs++N') scope cl C ex pins s H) ifs tt)
  (he:∀(C:Addr) (ex:List Addr) (pins:List (Addr×Obj)) (s:Shared) (H:Hp),PE (aaD X (xs++N') scope cl C ex pins s H) elt te)
  (I:Inv X pins σ H s) (T:Turn X.prog X.w X.K (tg) J fp it tn) (st:tn 0 s.heap) (hfp:∀b∈fp,abF X pins H b)
  (q:∀D,H D=none->∃W:Nat->Nat->Hp->Prop,(∃m,W 0 m (upd H D (.lst [])))/\∀i m H2,W i m H2->
   (J.stop i H2/\Q (.ref D) H2)∨(J.go i H2/\∀v H3,J.yld i H2 v H3->∀τ:St,τ.length=xs.length->g v (τ++aaH js σ) H3 fun σ2 H3'=>(∃τ':St,τ'.length=xs.length/\σ2=τ'++aaH js σ)/\tt σ2 H3' fun b H4=>if b=true then
    te σ2 H4 fun y H5=>∃ys,H5 D=some (.lst ys)/\ys.length<sizeLine/\∃m',m'<m/\W (i+1) m' (upd H5 D (.lst (ys++[y])))
    else ∃m',m'<m/\W (i+1) m' H4))
  (hRR:∀(D C:Addr) (s':Shared) (H':Hp) (m:Str->Option Value),Inv X pins σ H' s'->H' C=none->C≠X.env.locals->X.s₀.heap.objs.size<=C->(∀y c,X.env.cells.lookup y=some c->c≠C)->(∀p∈X.pn++pins,p.1≠C)->s'.heap.Ns C m->Q (.ref D) H'->RR (.ref D) C (.ok .next) s'):
  wpAny (model X.prog X.w) X.A (newList []) (fun acc s₃=>wpAny (model X.prog X.w) X.A (newFunctionEnv scope X.env.globals cl [] X.env.qual none .none (some X.env)) (fun cenv s₄=>
   codeAny (model X.prog X.w) X.A (.compStart (.ListComp elt [⟨tg,iter,ifs,0⟩] scope pos) 0 (.ref it) acc {cenv with scope:=relabel scope X.env}) (RR acc cenv.locals) s₄) X.xe s₃) X.xe s:=by
 refine wpAny_newObj_type ?_
 have hD:H s.heap.objs.size=none:=I.hok.fresh (Nat.le_refl _)
 have I3:Inv X pins σ (upd H s.heap.objs.size (.lst [])) {s with heap:=s.heap.push {cls:=.type "list",dict:=none,data:=.seq ([]:List Value).toArray} }:=I.lnew (its:=[]) (t':=s.toks) .nil (Nat.zero_le _)
 have hfp3:∀b∈fp,abF X pins (upd H s.heap.objs.size (.lst [])) b/\b<(s.heap.push {cls:=.type "list",dict:=none,data:=.seq ([]:List Value).toArray}).objs.size:=fun b hb=>by
  obtain⟨o,ho,_⟩:=T.obj 0 _ st b hb
  have hlt:=Heap.lt_size ho
  obtain⟨f0,f1⟩:=hfp b hb
  exact⟨⟨by rw[aaF (Nat.ne_of_lt hlt)];exact f0,f1⟩,by rw[Heap.size_push];exact Nat.lt_succ_of_lt hlt⟩
 have st3:tn 0 (s.heap.push {cls:=.type "list",dict:=none,data:=.seq ([]:List Value).toArray}):=T.keep _ _ _ st fun b _ o e=>Heap.get?_push_of_some _ e
 obtain⟨W,⟨m0,w0⟩,aaU⟩:=q s.heap.objs.size hD
 generalize hs3:({s with heap:=s.heap.push {cls:=.type "list",dict:=none,data:=.seq ([]:List Value).toArray} }:Shared)=s3 at I3 ⊢
 have hh3:s.heap.push {cls:=.type "list",dict:=none,data:=.seq ([]:List Value).toArray}=s3.heap:=by rw[←hs3]
 rw[hh3] at hfp3 st3
 generalize s.heap.objs.size=D at I3 hfp3 w0 aaU hD ⊢
 generalize upd H D (.lst [])=H3 at I3 hfp3 w0
 refine wpAny_newFunctionEnv hcl.nocell (by intro y hy;simp at hy) (fun h₁ hns₁ hsb₁=>?_) hcl.kind
 have hkeep:∀b o,s3.heap.get? b=some o->h₁.get? b=some o:=fun b o e=>hsb₁.extBut b o (Nat.ne_of_lt (Heap.lt_size e)) (Heap.get?_push_of_some _ e)
 have J4:Inv (aaD X (xs++N') scope cl s3.heap.objs.size fp pins s3 H3) [] (List.replicate xs.length none++aaH js σ) H3 {s3 with heap:=h₁,toks:=s3.toks+([]:List (Str×Value)).length}:=
  ahD hcl hN hk hf I3 hfp3 rfl rfl rfl hkeep hns₁
 have st4:tn 0 h₁:=T.keep _ _ _ st3 fun b _ o e=>hkeep b o e
 have cell':∀{s':Shared} {σ':St} {H':Hp},Inv (aaD X (xs++N') scope cl s3.heap.objs.size fp pins s3 H3) [] σ' H' s'->Q (.ref D) H'->RR (.ref D) s3.heap.objs.size (.ok .next) s':=fun {s' σ' H'} J hq=>by
  obtain⟨m,hn,_⟩:=J.loc
  refine hRR D _ s' H' m (akO I3 (fun b hb=>(hfp3 b hb).1) J) J.free (Nat.ne_of_gt I3.lt) I3.sz (fun y c e z=>?_) (fun p hp z=>?_) hn hq
  ·obtain⟨v,k⟩:=I3.cell y c e
   exact absurd k.lt (by rw[z];exact Nat.lt_irrefl _)
  ·exact absurd (Heap.lt_size (I3.pin p hp).1) (by rw[z];exact Nat.lt_irrefl _)
 have fpX:∀{H':Hp},(∀b∈fp,H' b=none)->∀b∈fp,abF (aaD X (xs++N') scope cl s3.heap.objs.size fp pins s3 H3) [] H' b:=fun {H'} hn b hb=>by
  obtain⟨⟨f0,f1,f2,f3,f4,f5⟩,flt⟩:=hfp3 b hb
  refine⟨hn b hb,Nat.ne_of_lt flt,fun z=>?_,.inl hb,fun y c e=>f4 y c (hcl.sub y c e),fun p hp=>?_⟩
  ·rcases List.mem_cons.mp (I3.stkSub b z) with z | z
   ·exact f1 z
   ·exact f2 z
  ·have hp:p∈(X.pn++pins)++[]:=hp
   rw[List.append_nil] at hp
   exact f5 p hp
 have loop:∀s₄:Shared,s₄={s3 with heap:=h₁,toks:=s3.toks+([]:List (Str×Value)).length}->
   codeAny (model X.prog X.w) X.A (.compLoop (.ListComp elt [⟨tg,iter,ifs,0⟩] scope pos) 0 (.ref it) (.ref D) (compEnvC scope cl s3.heap.objs.size X.env)) (RR (.ref D) s3.heap.objs.size) s₄:=by
  rintro s₄ rfl
  refine acV rfl (fun n s'=>∃i τ H',τ.length=xs.length/\Inv (aaD X (xs++N') scope cl s3.heap.objs.size fp pins s3 H3) [] (τ++aaH js σ) H' s'/\tn i s'.heap/\(∀b∈fp,H' b=none)/\W i n H') ?_ m0 ⟨0,List.replicate xs.length none,H3,List.length_replicate,J4,st4,fun b hb=>(hfp3 b hb).1.1,w0⟩
  rintro n s5 ⟨i,τ,H5,hτ,J5,st5,fr5,w5⟩
  rcases aaU i n H5 w5 with ⟨stop,qn⟩ | ⟨go,step⟩
  ·refine wpAny_mono (T.done (aaD X (xs++N') scope cl s3.heap.objs.size fp pins s3 H3) rfl rfl rfl hc i [] s5 _ H5 (fun _ _=>False) J5 (fpX fr5) st5 stop) (fun r s6 ⟨hr,J6⟩=>?_) fun _ _ z=>z.elim
   subst hr
   exact cell' J6 qn
  ·refine wpAny_mono (T.item (aaD X (xs++N') scope cl s3.heap.objs.size fp pins s3 H3) rfl rfl rfl hc i [] s5 _ H5 (fun _ _=>False) J5 (fpX fr5) st5 go) (fun r s6 ⟨u,hr,h6⟩=>?_) fun _ _ z=>z.elim
   subst hr
   refine wpAny_mono h6 (fun _ s6' h6'=>?_) fun _ _ z=>z.elim
   obtain⟨v,H6,J6,r6,y6,st6,fr6⟩:=h6'
   clear h6
   have J6':=J6.pinned (fpX fr6) (T.obj _ _ st6)
   show wpAny _ _ (assign tg _ u) _ _ _
   refine wpAny_mono (hg _ _ _ _ _ _ s6' _ H6 v u _ J6' r6 (step v H6 y6 τ hτ)) (fun _ s7 h7=>?_) fun _ _ z=>z.elim
   obtain⟨_,H7,J7,⟨τ',hτ',rfl⟩,q7⟩:=h7
   have again:∀{σ8:St} {H8:Hp} {s8:Shared},Inv (aaD X (xs++N') scope cl s3.heap.objs.size fp pins s3 H3) ([]++ab7 fp s6'.heap) σ8 H8 s8->tn (i+1) s8.heap/\∀b∈fp,H8 b=none:=fun {σ8 H8 s8} J8=>by
    refine⟨T.keep _ _ _ st6 fun b hb o e=>(J8.pin (b,o) (List.mem_append_right _ (List.mem_append_right _ (aaR hb e)))).1,fun b hb=>?_⟩
    obtain⟨o,e,d⟩:=T.obj _ _ st6 b hb
    exact (J8.pin (b,o) (List.mem_append_right _ (List.mem_append_right _ (aaR hb e)))).2.1
   refine wpAny_mono (ht _ _ _ _ _ _ s7 _ H7 _ J7 q7) (fun ok s8 ⟨H8,J8,q8⟩=>?_) fun _ _ z=>z.elim
   cases ok with
   |false=>
    obtain⟨m',hm,w8⟩:=(show ∃m',m'<n/\W (i+1) m' H8 from q8)
    obtain⟨a1,a2⟩:=again J8
    exact⟨m',hm,i+1,τ',H8,hτ',J8.unpinned,a1,a2,w8⟩
   |true=>
    refine wpAny_mono (he _ _ _ _ _ _ s8 _ H8 _ J8 q8) (fun y s9 ⟨z,H9,J9,r9,ys,hys,hlen,m',hm,w9⟩=>?_) fun _ _ z=>z.elim
    refine wpAny_mono (acF (X:=aaD X (xs++N') scope cl s3.heap.objs.size fp pins s3 H3) _ s9 _ H9 (.ref D) [z] (.ref D) [y] (fun _ H10=>H10=upd H9 D (.lst (ys++[z]))) J9 rfl (.cons r9 .nil) ⟨D,ys,z,rfl,rfl,hys,hlen,rfl⟩) (fun _ s10 ⟨_,H10,J10,_,e10⟩=>?_) fun _ _ z=>z.elim
    subst e10
    obtain⟨a1,a2⟩:=again J10
    exact⟨m',hm,i+1,τ',_,hτ',J10.unpinned,a1,a2,w9⟩
 exact codeAny_compStart_list (loop _ rfl) (T.self _ 0 _ _ _ st4 (loop _ rfl))
theorem ak6(hcl:Clos X scope cl)(hnd:(xs++N').Nodup)(hN:js.map (fun j=>X.N[j]?)=N'.map some)
  (hk:N'.all (fun y=>(X.env.kindOf y==some .cell)||(X.env.kindOf y==some .free))=true) (hf:N'.all (fun y=>scope.names.lookup y==some .free)=true) (hc:X.calm=true)
  (hi:PI X (tg) iter wi)
  (hg:∀(C:Addr) (ex:List Addr) (pins:List (Addr×Obj)) (s:Shared) (H:Hp),PG (aaD X (xs++N') scope cl C ex pins s H) tg g)
  (ht:∀(C:Addr) (ex:List Addr) (pins:List (Addr×Obj)) (s:Shared) (H:Hp),PF (aaD X (xs++N') scope cl C ex pins s H) ifs tt)
  (he:∀(C:Addr) (ex:List Addr) (pins:List (Addr×Obj)) (s:Shared) (H:Hp),PE (aaD X (xs++N') scope cl C ex pins s H) elt te)
  (hs:∀x,foldedSetIterable iter X.env x=pure x:=by intro _;rfl):
  PE X (.ListComp elt [⟨tg,iter,ifs,0⟩] scope pos) (agI wi xs.length js g tt te):=by
 intro pins s σ H Q I h
 rw[eval_ListComp]
 refine wpAny_comprehension_free (use:=none) rfl hs hcl.is hcl.kind hcl.names (thn (hi pins s σ H _ I h) fun xv s₁ h₁=>thn h₁ fun itv s₂ h₂=>?_)
 obtain⟨it,fp,tn,J,H2,rfl,I2,T,st,hfp,q⟩:=h₂
 refine ah2 (RR:=fun acc C=>compPost (model X.prog X.w) X.A X.xe none (EP X pins σ Q) acc C) hcl hnd hN hk hf hc hg ht he I2 T st hfp q ?_
 intro D C s' H' m I' hC0 hCL hCs hCc hCp hn hq
 refine⟨m,hn,fun h' sb=>⟨.ref D,H',?_,rfl,hq⟩⟩
 exact I'.turned (t':=s'.toks) (fun b o hb e=>(sb.2 b hb).trans e) hC0 hCL (.inr hCs) hCc hCp
theorem amC(xs N':List Str)(js:List Nat)(hi:Il X (tg) iter wi)
  (hg:∀(cl:List (Str×Addr)) (C:Addr) (ex:List Addr) (pins:List (Addr×Obj)) (s:Shared) (H:Hp),Gt (aaD X (xs++N') scope cl C ex pins s H) tg g)
  (ht:∀(cl:List (Str×Addr)) (C:Addr) (ex:List Addr) (pins:List (Addr×Obj)) (s:Shared) (H:Hp),Fs (aaD X (xs++N') scope cl C ex pins s H) ifs tt)
  (he:∀(cl:List (Str×Addr)) (C:Addr) (ex:List Addr) (pins:List (Addr×Obj)) (s:Shared) (H:Hp),E (aaD X (xs++N') scope cl C ex pins s H) elt te)
  (hcl:∃cl,Clos X scope cl:=by exact ad4 rfl rfl rfl rfl) (hnd:(xs++N').Nodup:=by decide +kernel) (hN:js.map (fun j=>X.N[j]?)=N'.map some:=by rfl)
  (hk:N'.all (fun y=>(X.env.kindOf y==some .cell)||(X.env.kindOf y==some .free))=true:=by rfl) (hf:N'.all (fun y=>scope.names.lookup y==some .free)=true:=by rfl) (hc:X.calm=true:=by rfl)
  (hs:∀x,foldedSetIterable iter X.env x=pure x:=by intro _;rfl):E X (.ListComp elt [⟨tg,iter,ifs,0⟩] scope pos) (agI wi xs.length js g tt te):=by
 obtain⟨cl,hcl⟩:=hcl
 exact⟨ak6 hcl hnd hN hk hf hc hi.h (fun C ex pins s H=>(hg cl C ex pins s H).h) (fun C ex pins s H=>(ht cl C ex pins s H).h) (fun C ex pins s H=>(he cl C ex pins s H).h) hs⟩
end
section
variable{js:List Nat}{σ:St}{tt:TT}{te:TE}{Q:VK}{H1:Hp}
end
theorem asH{X:Cx}{pos:Pos}{K:PySem.W.Frag}{es:List Expr}{k n:Nat}{t:TGs}(h:Gts X es t)(hK:X.K=K:=by rfl)(hc:X.calm=true:=by rfl)(hn:(assignEach es X.env).length=n:=by rfl)(hst:(assignEach es X.env).findIdx? (·.1)=none:=by rfl):Gt X (.Tuple es k pos) (anB K n t):=by
 subst hK
 exact gTu h hc hn hst
section
variable{X:Cx}
end
structure Clos3(X:Cx)(scope:Scope)(cl:List (Str×Addr)):Prop where
 is:closureFor scope X.env=pure cl
 sub:∀y c,cl.lookup y=some c->X.env.cells.lookup y=some c
 has:∀y,scope.names.lookup y=some .free->∃c,cl.lookup y=some c
 uniq:∀y,(y,NameKind.cell)∈scope.names->scope.names.lookup y=some .cell
 kind:scope.kind=.function
 names:∀y∈scope.names,y.2=.local->scope.names.lookup y.1=some .local
def aeT(scope:Scope)(cl:List (Str×Addr)):Prop:=∀y,(scope.names.lookup y=some .cell∨scope.names.lookup y=some .free)->∃c,cl.lookup y=some c
def aaJ(X:Cx)(N:List Str)(scope:Scope)(cl:List (Str×Addr))(C:Addr)(ex:List Addr)(pins:List (Addr×Obj))(s:Shared)(H:Hp):Cx:=
 {X with N:=N,s₀:=s,H₀:=H,env:=compEnvC scope cl C X.env,outer:=X.stack,stack:=X.stack,ex:=ex,fn:=fun y=>scope.names.lookup y==some .cell,pn:=X.pn++pins,xe:=fun _ _=>False}
theorem ae6:∀(names:List (Str×NameKind)) (n:Nat) (acc:List (Str×Addr)),cellsFrom n names acc=cellsFrom n names []++acc
 |[],_,_=>rfl
 |(y,k)::r,n,acc=>by
  unfold cellsFrom
  by_cases hk:(k== .cell)=true
  ·rw[if_pos hk,if_pos hk,ae6 r (n+1) ((y,n)::acc),ae6 r (n+1) [(y,n)],List.append_assoc]
   rfl
  ·rw[if_neg hk,if_neg hk]
   exact ae6 r n acc
theorem aiR{y:Str}{c:Addr}:∀(names:List (Str×NameKind)) (n:Nat),(y,c)∈cellsFrom n names []->(y,NameKind.cell)∈names
 |[],_,h=>nomatch h
 |(z,k)::r,n,h=>by
  unfold cellsFrom at h
  by_cases hk:(k== .cell)=true
  ·rw[if_pos hk,ae6] at h
   have ek:k=.cell:=by simpa using hk
   rcases List.mem_append.mp h with q | q
   ·exact List.mem_cons_of_mem _ (aiR r (n+1) q)
   ·have q:(y,c)=(z,n):=by simpa using q
    rw[ek,(Prod.mk.inj q).1]
    exact List.mem_cons_self
  ·rw[if_neg hk] at h
   exact List.mem_cons_of_mem _ (aiR r n h)
structure NewC(scope:Scope)(cl cl':List (Str×Addr))(C:Addr)(h:Heap):Prop where
 has:aeT scope cl'
 old:∀y c,cl'.lookup y=some c->(scope.names.lookup y≠some .cell/\cl.lookup y=some c)∨(scope.names.lookup y=some .cell/\C<c/\h.IsCell c none)
 back:∀y c,scope.names.lookup y≠some .cell->cl.lookup y=some c->cl'.lookup y=some c
 apart:∀y z c,scope.names.lookup y=some .cell->scope.names.lookup z=some .cell->cl'.lookup y=some c->cl'.lookup z=some c->y=z
theorem an7{X:Cx}{scope:Scope}{cl:List (Str×Addr)}{h:Heap}(hcl:Clos3 X scope cl){C:Addr}(hs:h.objs.size=C+1):NewC scope cl (cellsFrom (C+1) scope.names cl) C (pushCells h scope.names):=by
 have ok:=cellsFrom_ok scope.names h (C+1) [] ⟨fun _ _ hm=>(nomatch hm),List.Pairwise.nil⟩ (by rw[hs];exact Nat.le_refl _)
 rw[hs] at ok
 have lk:∀y,(cellsFrom (C+1) scope.names cl).lookup y=((cellsFrom (C+1) scope.names []).lookup y).or (cl.lookup y):=fun y=>by rw[ae6,List.lookup_append]
 have isC:∀y c,(cellsFrom (C+1) scope.names []).lookup y=some c->scope.names.lookup y=some .cell:=fun y c e=>hcl.uniq y (aiR _ _ (PySem.mem_of_lookup e))
 have thr:∀y,scope.names.lookup y=some .cell->∃c,(cellsFrom (C+1) scope.names []).lookup y=some c:=fun y e=>aeL e
 refine⟨fun y hy=>?_,fun y c e=>?_,fun y c hn e=>?_,fun y z c hy hz e1 e2=>?_⟩
 ·rw[lk]
  rcases hy with hy | hy
  ·obtain⟨c,e⟩:=thr y hy
   exact⟨c,by rw[e];rfl⟩
  ·obtain⟨c,e⟩:=hcl.has y hy
   cases q:(cellsFrom (C+1) scope.names []).lookup y with
   |none=>exact⟨c,by rw[e];rfl⟩
   |some c'=>exact⟨c',rfl⟩
 ·rw[lk] at e
  cases q:(cellsFrom (C+1) scope.names []).lookup y with
  |none=>
   rw[q] at e
   refine .inl ⟨fun z=>?_,e⟩
   obtain⟨c',e'⟩:=thr y z
   rw[q] at e'
   cases e'
  |some c'=>
   rw[q] at e
   obtain rfl:c'=c:=Option.some.inj e
   obtain⟨k1,k2⟩:=ok.empty y c' (PySem.mem_of_lookup q)
   exact .inr ⟨isC y c' q,k2,k1⟩
 ·rw[lk]
  cases q:(cellsFrom (C+1) scope.names []).lookup y with
  |none=>rw[e];rfl
  |some c'=>exact absurd (isC y c' q) hn
 ·obtain⟨c1,q1⟩:=thr y hy
  obtain⟨c2,q2⟩:=thr z hz
  rw[lk,q1] at e1
  rw[lk,q2] at e2
  obtain rfl:c1=c:=Option.some.inj e1
  obtain rfl:c2=c1:=Option.some.inj e2
  exact PySem.name_of_addr ok.apart (PySem.mem_of_lookup q1) (PySem.mem_of_lookup q2)
theorem abV{M:Model}{A:Around}{E:Value->Shared->Prop}{s:Shared}{scope:Scope}{globals:Addr}{closure:List (Str×Addr)}{qual:Str}{func:Option Addr}{code:Value}{outer:Env}{builtins:Addr}{Q:Env->Shared->Prop}
  (hQ:Q (newEnv scope s.heap.objs.size globals (cellsFrom (s.heap.objs.size+1) scope.names closure) qual func code (some outer) builtins) {s with heap:=pushCells (s.heap.push {cls:=.type "dict",data:=.dict #[]}) scope.names}):
  wpAny M A (newFunctionEnv scope globals closure [] qual func code (some outer) builtins) Q E s:=by
 simp only[newFunctionEnv,Option.isSome_some,if_true]
 refine wpAny_bind (wpAny_alloc ?_)
 refine wpAny_bind (wpAny_layCells _ (fun name kind cells=>by cases hkc:kind==NameKind.cell<;>simp[hkc]) _ _ _ _ ?_)
 rw[show ({s with heap:=s.heap.push {cls:=.type "dict",data:=.dict #[]} }:Shared).heap.objs.size=s.heap.objs.size+1 from Heap.size_push ..]
 rw[List.forIn_nil]
 exact wpAny_bind (wpAny_pure (wpAny_pure hQ))
theorem am2{X:Cx}{scope:Scope}(h:scope.names.all (fun y=>y.2 != .free||(X.env.cells.lookup y.1).isSome)=true)(h2:scope.names.all (fun y=>y.2 != .cell||scope.names.lookup y.1==some .cell)=true)(h3:scope.kind=.function)
  (h4:scope.names.all (fun y=>y.2 != .local||scope.names.lookup y.1==some .local)=true):∃cl,Clos3 X scope cl:=by
 obtain⟨cl,e,p1,p2,p3⟩:=abO X.env scope.names [] h
 refine⟨cl,?_,fun y c hy=>?_,fun y hy=>p3 y (PySem.mem_of_lookup hy),fun y hy=>by simpa using List.all_eq_true.mp h2 _ hy,h3,fun y hy hl=>?_⟩
 ·unfold closureFor
  exact Eq.trans (congrArg (fun t:Sem (List (Str×Addr))=>t >>=fun r=>(pure r:Sem (List (Str×Addr)))) e) rfl
 ·rcases p1 y c hy with z | z
  ·exact z
  ·simp at z
 ·have q:=List.all_eq_true.mp h4 y hy
  simpa [hl] using q
theorem ai5{X:Cx}{N:List Str}{outer inner:Scope}{cl':List (Str×Addr)}{C:Addr}{ex:List Addr}{pins:List (Addr×Obj)}{s:Shared}{H:Hp}(hh:aeT outer cl')
  (h:inner.names.all (fun y=>y.2 != .free||(outer.names.lookup y.1==some .cell||outer.names.lookup y.1==some .free))=true) (h2:inner.names.all (fun y=>y.2 != .cell)=true) (h3:inner.kind=.function)
  (h4:inner.names.all (fun y=>y.2 != .local||inner.names.lookup y.1==some .local)=true):∃cl,Clos (aaJ X N outer cl' C ex pins s H) inner cl:=by
 refine ad4 ?_ h2 h3 h4
 rw[List.all_eq_true] at h ⊢
 intro y hy
 have q:=h y hy
 rw[Bool.or_eq_true] at q ⊢
 rcases q with q | q
 ·exact .inl q
 ·have q:outer.names.lookup y.1=some .cell∨outer.names.lookup y.1=some .free:=by simpa using q
  obtain⟨c,e⟩:=hh y.1 q
  refine .inr ?_
  show (cl'.lookup y.1).isSome=true
  rw[e]
  rfl
theorem aiG{env:Env}{x:Str}{o:Option NameKind}(h:o.map (adL env x)=some .cell∨o.map (adL env x)=some .free):o=some .cell∨o=some .free:=by
 cases o with
 |none=>rcases h with h | h<;>cases h
 |some k=>
  by_cases e:k=.free
  ·rw[e];exact .inr rfl
  ·have z:adL env x k=k:=by
    unfold adL
    have e':(k==NameKind.free)=false:=by simpa using e
    rw[e']
    rfl
   rw[Option.map_some,z] at h
   exact h
section
variable{X:Cx}{elt iter tg:Expr}{xs:List Str}{y:Str}{py pos spos:Pos}{ifs:List Expr}{scope:Scope}{cl:List (Str×Addr)}{N':List Str}{js:List Nat}{tt:TT}{te:TE}{g:TG}{wi:TI}
theorem ahP{pins:List (Addr×Obj)}{σ:St}{H:Hp}{s s4:Shared}{fp:List Addr}{C:Addr}{m4:Str->Option Value}{cl':List (Str×Addr)}(hcl:Clos3 X scope cl)(nc:NewC scope cl cl' C s4.heap)(hN:js.map (fun j=>X.N[j]?)=N'.map some)
  (hk:N'.all (fun y=>(X.env.kindOf y==some .cell)||(X.env.kindOf y==some .free))=true) (hf:N'.all (fun y=>scope.names.lookup y==some .free)=true)
  (I:Inv X pins σ H s) (hfp:∀b∈fp,abF X pins H b/\b<s.heap.objs.size) (hC:C=s.heap.objs.size) (ho:s4.os=s.os) (hg:s4.gens=s.gens) (hkeep:∀b o,s.heap.get? b=some o->s4.heap.get? b=some o) (hn:s4.heap.Ns C m4):
  Inv (aaJ X (xs++N') scope cl' C fp pins s H) [] (List.replicate xs.length none++aaH js σ) H s4:=by
 have hne:∀b o,s.heap.get? b=some o->b≠C:=fun b o e=>by rw[hC];exact Nat.ne_of_lt (Heap.lt_size e)
 have oldlt:∀y c,cl.lookup y=some c->c<C:=fun y c e=>by
  obtain⟨v,k⟩:=I.cell y c (hcl.sub y c e)
  rw[hC]
  exact k.lt
 have injC:∀y z c,cl'.lookup y=some c->cl'.lookup z=some c->y=z:=fun y z c h1 h2=>by
  rcases nc.old y c h1 with ⟨n1,o1⟩ | ⟨n1,l1,_⟩
  ·rcases nc.old z c h2 with ⟨n2,o2⟩ | ⟨n2,l2,_⟩
   ·exact I.ok.inj y z c (hcl.sub y c o1) (hcl.sub z c o2)
   ·exact absurd (Nat.lt_trans (oldlt y c o1) l2) (Nat.lt_irrefl _)
  ·rcases nc.old z c h2 with ⟨n2,o2⟩ | ⟨n2,l2,_⟩
   ·exact absurd (Nat.lt_trans (oldlt z c o2) l1) (Nat.lt_irrefl _)
   ·exact nc.apart y z c n1 n2 h1 h2
 have cab':∀y c,(scope.names.lookup y==some .cell)=true->cl'.lookup y=some c->s.heap.objs.size<=c:=fun y c h1 h2=>by
  have h1:scope.names.lookup y=some .cell:=by simpa using h1
  rcases nc.old y c h2 with ⟨n1,_⟩ | ⟨_,l1,_⟩
  ·exact absurd h1 n1
  ·rw[←hC];exact Nat.le_of_lt l1
 have exf':∀b∈fp,∀y c,cl'.lookup y=some c->c≠b:=fun b hb y c e=>by
  rcases nc.old y c e with ⟨_,o1⟩ | ⟨_,l1,_⟩
  ·exact (hfp b hb).1.2.2.2.2.1 y c (hcl.sub y c o1)
  ·have:=(hfp b hb).2
   rw[←hC] at this
   exact Nat.ne_of_gt (Nat.lt_trans this l1)
 have cell3:∀y c,cl'.lookup y=some c->∃v,s4.heap.IsCell c v:=fun y c e=>by
  rcases nc.old y c e with ⟨_,o1⟩ | ⟨_,_,k⟩
  ·obtain⟨v,q⟩:=I.cell y c (hcl.sub y c o1)
   exact⟨v,q.keeps hkeep⟩
  ·exact⟨none,k⟩
 have free3:∀y c,cl'.lookup y=some c->H c=none:=fun y c e=>by
  rcases nc.old y c e with ⟨_,o1⟩ | ⟨_,l1,_⟩
  ·exact I.freeC y c (hcl.sub y c o1)
  ·rw[hC] at l1
   exact I.hok.fresh (Nat.le_of_lt l1)
 refine⟨⟨I.ok.mod,hcl.kind,I.ok.glob,I.ok.blt,Nat.le_of_eq hC.symm,injC,fun y hy=>nc.has y (aiG (by rw[←abB];exact hy)),cab',I.ok.hd,I.ok.frames,.inl rfl,fun b hb=>⟨?_,exf' b hb⟩,
  I.bs,Nat.le_trans I.ok.bsz I.sz,fun b o e hb=>?_,fun b hb hz=>?_,I.stack,I.stkFree⟩,ho,by rw[hg];exact I.bare,Un.kept hkeep,⟨m4,hn,fun i y v h1 h2 h3=>?_⟩,cell3,?_,free3,fun p hp=>?_,I.hok.kept hkeep,?_⟩
 ·rw[hC];exact Nat.ne_of_lt (hfp b hb).2
 ·rcases (hfp b hb).1.2.2.2.1 with z | z
  ·exact I.ok.noex b o e z
  ·exact absurd (Nat.lt_of_lt_of_le (Heap.lt_size e) (Nat.le_trans I.ok.bsz z)) (Nat.lt_irrefl _)
 ·rcases List.mem_cons.mp (I.stkSub b hz) with z | z
  ·exact (hfp b hb).1.2.1 z
  ·exact (hfp b hb).1.2.2.1 z
 ·by_cases hi:i<xs.length
  ·rw[List.getElem?_append_left (by rw[List.length_replicate];exact hi),List.getElem?_replicate,if_pos hi] at h2
   exact nomatch h2
  ·obtain⟨j0,rfl⟩:∃j0,i=xs.length+j0:=⟨i-xs.length,by omega⟩
   have h1:N'[j0]? =some y:=by
    have h1:(xs++N')[xs.length+j0]? =some y:=h1
    rw[List.getElem?_append_right (Nat.le_add_right _ _),Nat.add_sub_cancel_left] at h1
    exact h1
   have h2:(aaH js σ)[j0]? =some (some v):=by rw[List.getElem?_append_right (by rw[List.length_replicate];exact Nat.le_add_right _ _),List.length_replicate,Nat.add_sub_cancel_left] at h2;exact h2
   generalize j0=i at h1 h2
   have hy:y∈N':=List.mem_of_getElem? h1
   have q:(js.map (fun j=>X.N[j]?))[i]? =some (some y):=by rw[hN,List.getElem?_map,h1];rfl
   rw[List.getElem?_map] at q
   cases ej:js[i]? with
   |none=>rw[ej] at q;cases q
   |some j=>
    rw[ej] at q
    have q:X.N[j]? =some y:=Option.some.inj q
    unfold aaH at h2
    rw[List.getElem?_map,ej] at h2
    have h2:(σ[j]?).getD none=some v:=Option.some.inj h2
    have h2:σ[j]? =some (some v):=by
     cases e:σ[j]? with
     |none=>rw[e] at h2;cases h2
     |some o=>rw[e] at h2;exact congrArg some h2
    have kk:=List.all_eq_true.mp hk y hy
    have kk:X.env.kindOf y=some .cell∨X.env.kindOf y=some .free:=by simpa using kk
    have ff:=List.all_eq_true.mp hf y hy
    have ff:scope.names.lookup y=some .free:=by simpa using ff
    obtain⟨m,_,hl⟩:=I.loc
    obtain⟨u,r,l⟩:=hl j y v q h2 (by rcases kk with z | z;exact .inr (.inl z);exact .inr (.inr z))
    refine⟨u,r,.inr ⟨abM ff,?_⟩⟩
    obtain⟨c,hc⟩:=hcl.has y ff
    rcases l with ⟨z,_⟩ | ⟨_,c',e',cell⟩
    ·rcases kk with k | k<;>(rw[k] at z;cases z)
    ·rw[hcl.sub y c hc] at e'
     cases e'
     exact⟨c,nc.back y c (by rw[ff];exact fun z=>nomatch z) hc,cell.keeps hkeep⟩
 ·show H C=none
  rw[hC]
  exact I.hok.fresh (Nat.le_refl _)
 ·have hp:p∈X.pn++pins:=by
   have hp:p∈(X.pn++pins)++[]:=hp
   rwa [List.append_nil] at hp
  obtain⟨e,n,ne,nf,d⟩:=I.pin p hp
  refine⟨hkeep _ _ e,n,hne _ _ e,fun z=>?_,d⟩
  rcases List.mem_cons.mp (I.stkSub p.1 z) with z | z
  ·exact ne z
  ·exact nf z
 ·show (List.replicate xs.length none++aaH js σ).length=(xs++N').length
  rw[List.length_append,List.length_append,List.length_replicate]
  have q:=congrArg List.length hN
  rw[List.length_map,List.length_map] at q
  unfold aaH
  rw[List.length_map,q]
theorem ajZ{pins:List (Addr×Obj)}{σ σ':St}{H H':Hp}{s s':Shared}{fp:List Addr}{C:Addr}(I:Inv X pins σ H s)(hfp:∀b∈fp,abF X pins H b)(J:Inv (aaJ X (xs++N') scope cl' C fp pins s H) [] σ' H' s'):Inv X pins σ H' s':=
 I.call' (ch:=fp) J.os J.base J.hok J.bare fun b hb=>⟨(hfp b hb).2.2.2.1,(hfp b hb).2.1,(hfp b hb).2.2.2.2.1,(hfp b hb).2.2.2.2.2⟩
theorem ahE{pins:List (Addr×Obj)}{σ:St}{H:Hp}{s:Shared}{Q:VK}{RR:Value->Addr->Result->Shared->Prop}{J:It}{fp:List Addr}{it:Addr}{tn:Nat->Heap->Prop}
  (hcl:Clos3 X scope cl) (hnd:(xs++N').Nodup) (hN:js.map (fun j=>X.N[j]?)=N'.map some)
  (hk:N'.all (fun y=>(X.env.kindOf y==some .cell)||(X.env.kindOf y==some .free))=true) (hf:N'.all (fun y=>scope.names.lookup y==some .free)=true) (hc:X.calm=true)
  (hg:∀(cl':List (Str×Addr)) (C:Addr) (ex:List Addr) (pins:List (Addr×Obj)) (s:Shared) (H:Hp),aeT scope cl'->PG (aaJ X (xs++N') scope cl' C ex pins s H) tg g)
  (ht:∀(cl':List (Str×Addr)) (C:Addr) (ex:List Addr) (pins:List (Addr×Obj)) (s:Shared) (H:Hp),aeT scope cl'->PF (aaJ X (xs++N') scope cl' C ex pins s H) ifs tt)
  (he:∀(cl':List (Str×Addr)) (C:Addr) (ex:List Addr) (pins:List (Addr×Obj)) (s:Shared) (H:Hp),aeT scope cl'->PE (aaJ X (xs++N') scope cl' C ex pins s H) elt te)
  (I:Inv X pins σ H s) (T:Turn X.prog X.w X.K (tg) J fp it tn) (st:tn 0 s.heap) (hfp:∀b∈fp,abF X pins H b)
  (q:∀D,H D=none->∃W:Nat->Nat->Hp->Prop,(∃m,W 0 m (upd H D (.lst [])))/\∀i m H2,W i m H2->
   (J.stop i H2/\Q (.ref D) H2)∨(J.go i H2/\∀v H3,J.yld i H2 v H3->∀τ:St,τ.length=xs.length->g v (τ++aaH js σ) H3 fun σ2 H3'=>(∃τ':St,τ'.length=xs.length/\σ2=τ'++aaH js σ)/\tt σ2 H3' fun b H4=>if b=true then
    te σ2 H4 fun y H5=>∃ys,H5 D=some (.lst ys)/\ys.length<sizeLine/\∃m',m'<m/\W (i+1) m' (upd H5 D (.lst (ys++[y])))
    else ∃m',m'<m/\W (i+1) m' H4))
  (hRR:∀(D C:Addr) (s':Shared) (H':Hp) (m:Str->Option Value),Inv X pins σ H' s'->H' C=none->C≠X.env.locals->X.s₀.heap.objs.size<=C->(∀y c,X.env.cells.lookup y=some c->c≠C)->(∀p∈X.pn++pins,p.1≠C)->s'.heap.Ns C m->Q (.ref D) H'->RR (.ref D) C (.ok .next) s'):
  wpAny (model X.prog X.w) X.A (newList []) (fun acc s₃=>wpAny (model X.prog X.w) X.A (newFunctionEnv scope X.env.globals cl [] X.env.qual none .none (some X.env)) (fun cenv s₄=>
   codeAny (model X.prog X.w) X.A (.compStart (.ListComp elt [⟨tg,iter,ifs,0⟩] scope pos) 0 (.ref it) acc {cenv with scope:=relabel scope X.env}) (RR acc cenv.locals) s₄) X.xe s₃) X.xe s:=by
 refine wpAny_newObj_type ?_
 have hD:H s.heap.objs.size=none:=I.hok.fresh (Nat.le_refl _)
 have I3:Inv X pins σ (upd H s.heap.objs.size (.lst [])) {s with heap:=s.heap.push {cls:=.type "list",dict:=none,data:=.seq ([]:List Value).toArray} }:=I.lnew (its:=[]) (t':=s.toks) .nil (Nat.zero_le _)
 have hfp3:∀b∈fp,abF X pins (upd H s.heap.objs.size (.lst [])) b/\b<(s.heap.push {cls:=.type "list",dict:=none,data:=.seq ([]:List Value).toArray}).objs.size:=fun b hb=>by
  obtain⟨o,ho,_⟩:=T.obj 0 _ st b hb
  have hlt:=Heap.lt_size ho
  obtain⟨f0,f1⟩:=hfp b hb
  exact⟨⟨by rw[aaF (Nat.ne_of_lt hlt)];exact f0,f1⟩,by rw[Heap.size_push];exact Nat.lt_succ_of_lt hlt⟩
 have st3:tn 0 (s.heap.push {cls:=.type "list",dict:=none,data:=.seq ([]:List Value).toArray}):=T.keep _ _ _ st fun b _ o e=>Heap.get?_push_of_some _ e
 obtain⟨W,⟨m0,w0⟩,aaU⟩:=q s.heap.objs.size hD
 generalize hs3:({s with heap:=s.heap.push {cls:=.type "list",dict:=none,data:=.seq ([]:List Value).toArray} }:Shared)=s3 at I3 ⊢
 have hh3:s.heap.push {cls:=.type "list",dict:=none,data:=.seq ([]:List Value).toArray}=s3.heap:=by rw[←hs3]
 rw[hh3] at hfp3 st3
 generalize s.heap.objs.size=D at I3 hfp3 w0 aaU hD ⊢
 generalize upd H D (.lst [])=H3 at I3 hfp3 w0
 refine abV ?_
 have nc:=an7 (h:=s3.heap.push {cls:=.type "dict",data:=.dict #[]}) hcl (C:=s3.heap.objs.size) (Heap.size_push _ _)
 have hns₁:(pushCells (s3.heap.push {cls:=.type "dict",data:=.dict #[]}) scope.names).Ns s3.heap.objs.size (fun _=>none):=(Heap.Ns.new s3.heap (.type "dict")).keeps (pushCells_keeps _ _)
 have hkeep:∀b o,s3.heap.get? b=some o->(pushCells (s3.heap.push {cls:=.type "dict",data:=.dict #[]}) scope.names).get? b=some o:=fun b o e=>pushCells_keeps _ _ b o (Heap.get?_push_of_some _ e)
 generalize pushCells (s3.heap.push {cls:=.type "dict",data:=.dict #[]}) scope.names=h₁ at nc hns₁ hkeep ⊢
 have J4:Inv (aaJ X (xs++N') scope (cellsFrom (s3.heap.objs.size+1) scope.names cl) s3.heap.objs.size fp pins s3 H3) [] (List.replicate xs.length none++aaH js σ) H3 {s3 with heap:=h₁}:=
  ahP hcl nc hN hk hf I3 hfp3 rfl rfl rfl hkeep hns₁
 have st4:tn 0 h₁:=T.keep _ _ _ st3 fun b _ o e=>hkeep b o e
 have cell':∀{s':Shared} {σ':St} {H':Hp},Inv (aaJ X (xs++N') scope (cellsFrom (s3.heap.objs.size+1) scope.names cl) s3.heap.objs.size fp pins s3 H3) [] σ' H' s'->Q (.ref D) H'->RR (.ref D) s3.heap.objs.size (.ok .next) s':=fun {s' σ' H'} J hq=>by
  obtain⟨m,hn,_⟩:=J.loc
  refine hRR D _ s' H' m (ajZ I3 (fun b hb=>(hfp3 b hb).1) J) J.free (Nat.ne_of_gt I3.lt) I3.sz (fun y c e z=>?_) (fun p hp z=>?_) hn hq
  ·obtain⟨v,k⟩:=I3.cell y c e
   exact absurd k.lt (by rw[z];exact Nat.lt_irrefl _)
  ·exact absurd (Heap.lt_size (I3.pin p hp).1) (by rw[z];exact Nat.lt_irrefl _)
 have fpX:∀{H':Hp},(∀b∈fp,H' b=none)->∀b∈fp,abF (aaJ X (xs++N') scope (cellsFrom (s3.heap.objs.size+1) scope.names cl) s3.heap.objs.size fp pins s3 H3) [] H' b:=fun {H'} hn b hb=>by
  obtain⟨⟨f0,f1,f2,f3,f4,f5⟩,flt⟩:=hfp3 b hb
  refine⟨hn b hb,Nat.ne_of_lt flt,fun z=>?_,.inl hb,fun y c e=>(by
   rcases nc.old y c e with ⟨_,o1⟩ | ⟨_,l1,_⟩
   ·exact f4 y c (hcl.sub y c o1)
   ·exact Nat.ne_of_gt (Nat.lt_trans flt l1)),fun p hp=>?_⟩
  ·rcases List.mem_cons.mp (I3.stkSub b z) with z | z
   ·exact f1 z
   ·exact f2 z
  ·have hp:p∈(X.pn++pins)++[]:=hp
   rw[List.append_nil] at hp
   exact f5 p hp
 have loop:∀s₄:Shared,s₄={s3 with heap:=h₁}->
   codeAny (model X.prog X.w) X.A (.compLoop (.ListComp elt [⟨tg,iter,ifs,0⟩] scope pos) 0 (.ref it) (.ref D) (compEnvC scope (cellsFrom (s3.heap.objs.size+1) scope.names cl) s3.heap.objs.size X.env)) (RR (.ref D) s3.heap.objs.size) s₄:=by
  rintro s₄ rfl
  refine acV rfl (fun n s'=>∃i τ H',τ.length=xs.length/\Inv (aaJ X (xs++N') scope (cellsFrom (s3.heap.objs.size+1) scope.names cl) s3.heap.objs.size fp pins s3 H3) [] (τ++aaH js σ) H' s'/\tn i s'.heap/\(∀b∈fp,H' b=none)/\W i n H') ?_ m0 ⟨0,List.replicate xs.length none,H3,List.length_replicate,J4,st4,fun b hb=>(hfp3 b hb).1.1,w0⟩
  rintro n s5 ⟨i,τ,H5,hτ,J5,st5,fr5,w5⟩
  rcases aaU i n H5 w5 with ⟨stop,qn⟩ | ⟨go,step⟩
  ·refine wpAny_mono (T.done (aaJ X (xs++N') scope (cellsFrom (s3.heap.objs.size+1) scope.names cl) s3.heap.objs.size fp pins s3 H3) rfl rfl rfl hc i [] s5 _ H5 (fun _ _=>False) J5 (fpX fr5) st5 stop) (fun r s6 ⟨hr,J6⟩=>?_) fun _ _ z=>z.elim
   subst hr
   exact cell' J6 qn
  ·refine wpAny_mono (T.item (aaJ X (xs++N') scope (cellsFrom (s3.heap.objs.size+1) scope.names cl) s3.heap.objs.size fp pins s3 H3) rfl rfl rfl hc i [] s5 _ H5 (fun _ _=>False) J5 (fpX fr5) st5 go) (fun r s6 ⟨u,hr,h6⟩=>?_) fun _ _ z=>z.elim
   subst hr
   refine wpAny_mono h6 (fun _ s6' h6'=>?_) fun _ _ z=>z.elim
   obtain⟨v,H6,J6,r6,y6,st6,fr6⟩:=h6'
   clear h6
   have J6':=J6.pinned (fpX fr6) (T.obj _ _ st6)
   show wpAny _ _ (assign tg _ u) _ _ _
   refine wpAny_mono (hg _ _ _ _ _ _ nc.has _ s6' _ H6 v u _ J6' r6 (step v H6 y6 τ hτ)) (fun _ s7 h7=>?_) fun _ _ z=>z.elim
   obtain⟨_,H7,J7,⟨τ',hτ',rfl⟩,q7⟩:=h7
   have again:∀{σ8:St} {H8:Hp} {s8:Shared},Inv (aaJ X (xs++N') scope (cellsFrom (s3.heap.objs.size+1) scope.names cl) s3.heap.objs.size fp pins s3 H3) ([]++ab7 fp s6'.heap) σ8 H8 s8->tn (i+1) s8.heap/\∀b∈fp,H8 b=none:=fun {σ8 H8 s8} J8=>by
    refine⟨T.keep _ _ _ st6 fun b hb o e=>(J8.pin (b,o) (List.mem_append_right _ (List.mem_append_right _ (aaR hb e)))).1,fun b hb=>?_⟩
    obtain⟨o,e,d⟩:=T.obj _ _ st6 b hb
    exact (J8.pin (b,o) (List.mem_append_right _ (List.mem_append_right _ (aaR hb e)))).2.1
   refine wpAny_mono (ht _ _ _ _ _ _ nc.has _ s7 _ H7 _ J7 q7) (fun ok s8 ⟨H8,J8,q8⟩=>?_) fun _ _ z=>z.elim
   cases ok with
   |false=>
    obtain⟨m',hm,w8⟩:=(show ∃m',m'<n/\W (i+1) m' H8 from q8)
    obtain⟨a1,a2⟩:=again J8
    exact⟨m',hm,i+1,τ',H8,hτ',J8.unpinned,a1,a2,w8⟩
   |true=>
    refine wpAny_mono (he _ _ _ _ _ _ nc.has _ s8 _ H8 _ J8 q8) (fun y s9 ⟨z,H9,J9,r9,ys,hys,hlen,m',hm,w9⟩=>?_) fun _ _ z=>z.elim
    refine wpAny_mono (acF (X:=aaJ X (xs++N') scope (cellsFrom (s3.heap.objs.size+1) scope.names cl) s3.heap.objs.size fp pins s3 H3) _ s9 _ H9 (.ref D) [z] (.ref D) [y] (fun _ H10=>H10=upd H9 D (.lst (ys++[z]))) J9 rfl (.cons r9 .nil) ⟨D,ys,z,rfl,rfl,hys,hlen,rfl⟩) (fun _ s10 ⟨_,H10,J10,_,e10⟩=>?_) fun _ _ z=>z.elim
    subst e10
    obtain⟨a1,a2⟩:=again J10
    exact⟨m',hm,i+1,τ',_,hτ',J10.unpinned,a1,a2,w9⟩
 exact codeAny_compStart_list (loop _ rfl) (T.self _ 0 _ _ _ st4 (loop _ rfl))
theorem ak8(hcl:Clos3 X scope cl)(hnd:(xs++N').Nodup)(hN:js.map (fun j=>X.N[j]?)=N'.map some)
  (hk:N'.all (fun y=>(X.env.kindOf y==some .cell)||(X.env.kindOf y==some .free))=true) (hf:N'.all (fun y=>scope.names.lookup y==some .free)=true) (hc:X.calm=true)
  (hi:PI X (tg) iter wi)
  (hg:∀(cl':List (Str×Addr)) (C:Addr) (ex:List Addr) (pins:List (Addr×Obj)) (s:Shared) (H:Hp),aeT scope cl'->PG (aaJ X (xs++N') scope cl' C ex pins s H) tg g)
  (ht:∀(cl':List (Str×Addr)) (C:Addr) (ex:List Addr) (pins:List (Addr×Obj)) (s:Shared) (H:Hp),aeT scope cl'->PF (aaJ X (xs++N') scope cl' C ex pins s H) ifs tt)
  (he:∀(cl':List (Str×Addr)) (C:Addr) (ex:List Addr) (pins:List (Addr×Obj)) (s:Shared) (H:Hp),aeT scope cl'->PE (aaJ X (xs++N') scope cl' C ex pins s H) elt te)
  (hs:∀x,foldedSetIterable iter X.env x=pure x:=by intro _;rfl):
  PE X (.ListComp elt [⟨tg,iter,ifs,0⟩] scope pos) (agI wi xs.length js g tt te):=by
 intro pins s σ H Q I h
 rw[eval_ListComp]
 refine wpAny_comprehension_free (use:=none) rfl hs hcl.is hcl.kind hcl.names (thn (hi pins s σ H _ I h) fun xv s₁ h₁=>thn h₁ fun itv s₂ h₂=>?_)
 obtain⟨it,fp,tn,J,H2,rfl,I2,T,st,hfp,q⟩:=h₂
 refine ahE (RR:=fun acc C=>compPost (model X.prog X.w) X.A X.xe none (EP X pins σ Q) acc C) hcl hnd hN hk hf hc hg ht he I2 T st hfp q ?_
 intro D C s' H' m I' hC0 hCL hCs hCc hCp hn hq
 refine⟨m,hn,fun h' sb=>⟨.ref D,H',?_,rfl,hq⟩⟩
 exact I'.turned (t':=s'.toks) (fun b o hb e=>(sb.2 b hb).trans e) hC0 hCL (.inr hCs) hCc hCp
theorem ak3(xs N':List Str)(js:List Nat)(hi:Il X (tg) iter wi)
  (hg:∀(cl':List (Str×Addr)) (C:Addr) (ex:List Addr) (pins:List (Addr×Obj)) (s:Shared) (H:Hp),aeT scope cl'->Gt (aaJ X (xs++N') scope cl' C ex pins s H) tg g)
  (ht:∀(cl':List (Str×Addr)) (C:Addr) (ex:List Addr) (pins:List (Addr×Obj)) (s:Shared) (H:Hp),aeT scope cl'->Fs (aaJ X (xs++N') scope cl' C ex pins s H) ifs tt)
  (he:∀(cl':List (Str×Addr)) (C:Addr) (ex:List Addr) (pins:List (Addr×Obj)) (s:Shared) (H:Hp),aeT scope cl'->E (aaJ X (xs++N') scope cl' C ex pins s H) elt te)
  (hcl:∃cl,Clos3 X scope cl:=by exact am2 rfl rfl rfl rfl) (hnd:(xs++N').Nodup:=by decide +kernel) (hN:js.map (fun j=>X.N[j]?)=N'.map some:=by rfl)
  (hk:N'.all (fun y=>(X.env.kindOf y==some .cell)||(X.env.kindOf y==some .free))=true:=by rfl) (hf:N'.all (fun y=>scope.names.lookup y==some .free)=true:=by rfl) (hc:X.calm=true:=by rfl)
  (hs:∀x,foldedSetIterable iter X.env x=pure x:=by intro _;rfl):E X (.ListComp elt [⟨tg,iter,ifs,0⟩] scope pos) (agI wi xs.length js g tt te):=by
 obtain⟨cl,hcl⟩:=hcl
 exact⟨ak8 hcl hnd hN hk hf hc hi.h (fun cl' C ex pins s H hh=>(hg cl' C ex pins s H hh).h) (fun cl' C ex pins s H hh=>(ht cl' C ex pins s H hh).h) (fun cl' C ex pins s H hh=>(he cl' C ex pins s H hh).h) hs⟩
end
end L2
namespace L2
open PySem PySem.Spec PyProof.Rows PySem.SeqAt
def acX(H:Hp)(ts:List Addr)(prs:List (Int×Int)):Prop:=Paired (fun (t:Addr) (p:Int×Int)=>H t=some (.tup [.int p.1,.int p.2])) ts prs
section
variable{X:Cx}
theorem iLc{K:PySem.W.Frag}{tg e:Expr}{te:TE}(hl:E X e te)(hK:X.K=K:=by rfl):Il X tg e (alV K te):=by
 subst hK
 exact iL hl
theorem ahW{J:It}{js:List Nat}{σ:St}{tt:TT}{te:TE}{Q:VK}{H1:Hp}(h:ahO J js σ tt te Q H1):aiB J 1 js (acZ 0) σ tt te Q H1:=by
 intro D hD
 obtain⟨W,w0,aaU⟩:=h D hD
 refine⟨W,w0,fun i m H2 w=>?_⟩
 rcases aaU i m H2 w with z | ⟨go,z⟩
 ·exact .inl z
 ·refine .inr ⟨go,fun v H3 y τ hτ=>?_⟩
  obtain⟨t0,rfl⟩:∃t0,τ=[t0]:=by
   match τ,hτ with
   |[a],_=>exact⟨a,rfl⟩
  exact⟨⟨[some v],rfl,rfl⟩,z v H3 y⟩
end
section
variable{M:Model}{A:Around}{E:Value->Shared->Prop}{s:Shared}{f:Obj->Prop}{B:Heap}{env:Env}{outer l:List Env}{L e:Addr}{fl:Value}{Q:Unit->Shared->Prop}
end
theorem ObjOk.at{P:Program}{w:World}{H:Hp}{h:Heap}{a:Addr}{o:HO}(x:ObjOk P w H h a o):∃ob,h.get? a=some ob:=by
 induction o with
 |lst xs=>obtain⟨_,_,_,_,e⟩:=x;exact⟨_,e⟩
 |tup xs=>obtain⟨_,_,_,ob,e,_⟩:=x;exact⟨_,e⟩
 |dK kvs=>obtain⟨_,_,_,_,ob,_,_,e,_⟩:=x;exact⟨_,e⟩
 |dT kvs=>obtain⟨_,_,_,_,ob,_,_,e,_⟩:=x;exact⟨_,e⟩
 |set S n=>obtain⟨ob,_,_,_,e,_⟩:=x;exact⟨_,e⟩
 |ins C dx fs=>obtain⟨_,_,_,e,_⟩:=x;exact⟨_,e⟩
 |own y=>exact x
 |xd fs=>obtain⟨_,⟨ob,_,_,e,_⟩,_⟩:=x;exact⟨_,e⟩
 |rng lo hi=>obtain⟨_,_,_,e⟩:=x;exact⟨_,e⟩
 |frz ob u ih=>exact⟨_,x.1⟩
 |tbl ps=>exact⟨_,x⟩
 |met f y=>exact⟨_,x⟩
 |ext φ=>exact x.2.1
def Ex(C:Addr)(d:Option Addr)(b:Bool)(o:Obj):Prop:=o.cls=.ref C/\o.dict=d/\∃vs,o.data=.fields vs/\(b=true->vs[2]? =some .none)
def wc(C:Addr):Value:=.int C 0
def cv(C:Addr):Bool->Value
 |true=>.ref C
 |false=>wc C
def Fly(g h:Heap)(H:Hp)(a C:Addr)(d:Option Addr)(b:Bool):Prop:=
 H a=none/\g.get? a=none/\∃(o:Obj) (vs:Array Value) (T:Addr) (oT:Obj) (ts:Array Value),(h.get? a=some o/\o.data=.fields vs/\vs[1]? =some (.ref T)/\Ex C d b o)/\
  (h.get? T=some oT/\oT.data=.fields ts/\ts[3]? =some .none)/\(H T=none/\g.get? T=none)/\T≠a
def CX1(P:Program)(w:World):CXT:=fun outer H s E e s'=>
 ∃a C d b H',e=.ref a/\s'.os=s.os/\AllBare s'.gens/\Un (frs outer) [] H H' s.heap s'.heap/\HOk P w H' s'.heap/\Fly s.heap s'.heap H' a C d b/\E (cv C b) d H'
section
variable{P:Program}{w:World}{K:PySem.W.Frag}{mg:Str->Option Value}{base:Heap}{N:List Str}{qual:Str}{scope:Scope}{f:Addr}{cd:Value}{A:Around}{outer:List Env}{s0:Shared}{H0:Hp}{E:XK}
end
abbrev ar8:List Value:=[.type "ValueError",.type "Exception",.type "BaseException",.type "object"]
structure Xc(K:PySem.W.Frag)(mg:Str->Option Value)(x:Str)(C:Addr):Prop where
 m:mg x=some (.ref C)
 n:PySem.W.nsIn K mainGlobals x=some (some (.ref C))
 q:PySem.W.excIn K C ar8 "ValueError.__new__"=true
theorem Mod.top{K:PySem.W.Frag}{mg:Str->Option Value}{base:Heap}(m:Mod K mg base)(p:Program):∃loose mb,PySem.W.TopRead p loose mg mb base:=by
 obtain⟨mb,b1,b2⟩:=m.blt
 obtain⟨o,es,ep,ho,hd,hk,hf⟩:=id m.glob
 refine⟨es.toList.filterMap fun e=>match e.key with | .str y _=>some y | _=>none,mb,m.glob,b1,m.nolimit,b2,fun x _ hx _ _ _=>?_⟩
 rw[←hf]
 have none_:es.find? (fun e=>e.key.isStr x)=none:=by
  rw[Array.find?_eq_none]
  intro e he hs
  obtain⟨y,t,ek⟩:=hk e he
  refine hx (List.mem_filterMap.mpr ⟨e,by simpa using he,?_⟩)
  rw[ek] at hs ⊢
  have:y=x:=by simpa [Value.isStr] using hs
  rw[this]
 show (es.find? fun e=>e.key.isStr x).map (·.val)=none
 rw[none_]
 rfl
theorem Xc.own{K:PySem.W.Frag}{mg:Str->Option Value}{base:Heap}{x:Str}{C:Addr}(c:Xc K mg x C)(m:Mod K mg base)(p:Program):OwnCls x C ar8 "ValueError.__new__" mg base:=by
 obtain⟨loose,mb,T⟩:=m.top p
 exact PySem.W.own_of_in m.kin T c.n c.q
section
variable{X:Cx}{E:XK}{x:Str}{C:Addr}{e:Expr}{es:List Expr}{t:TA}{np cpos pos:Pos}
end
section
variable{P:Program}{w:World}{K:PySem.W.Frag}{mg:Str->Option Value}{base:Heap}{N:List Str}{qual:Str}{scope:Scope}{f:Addr}{cd:Value}{A:Around}{outer:List Env}{s0:Shared}{H0:Hp}{E:XK}
end
section
variable{P:Program}{w:World}{K:PySem.W.Frag}{mg:Str->Option Value}{base:Heap}{x:Str}{st:Stmt}{ps N:List Str}{k:Nat}{sp:Sp}
end
def XP(X:Cx)(pins:List (Addr×Obj))(σ:St)(E:XK)(e:Value)(s':Shared):Prop:=∃s1 H1,Inv X pins σ H1 s1/\CX1 X.prog X.w X.stack H1 s1 E e s'
abbrev TX:=St->Hp->VK->XK->Prop
abbrev TB:=Ends->St->Hp->XK->Prop
section
variable{X:Cx}{k k':Nat}{ps:List Str}{sp:Sp}{x:Str}{e:Expr}{es:List Expr}{tA:TA}{p pos:Pos}{t:TX}
end
section
variable{X:Cx}{pins:List (Addr×Obj)}{σ:St}{H:Hp}{s:Shared}
end
section
variable{X:Cx}{body suite:List Stmt}{b0:Stmt}{tb:TB}{th:Addr->TS}{cx n:Str}{np hpos pos:Pos}{CF:Addr}
end
section
variable{X:Cx}{E:XK}{x:Str}{C:Addr}{e:Expr}{es:List Expr}{tA:TA}{np cpos pos p:Pos}{k k':Nat}{ps:List Str}{sp:Sp}
end
section
open PySem.W
variable{prog:Program}{w:World}{A:Around}{E:Value->Shared->Prop}{s:Shared}{K:PySem.W.Frag}{a C:Addr}
open Builtin Builtin.ObjectAttr Builtin.Getset_descriptor in
open Builtin Builtin.ObjectAttr in
end
section
variable{X:Cx}{body suite:List Stmt}{b0:Stmt}{tb:TB}{th:Addr->TS}{cx:Str}{np hpos pos:Pos}{CF:Addr}
end
section
variable{prog:Program}{w:World}{A:Around}{E:Value->Shared->Prop}{s:Shared}{e C a:Addr}{d:Option Addr}
end
section
variable{prog:Program}{w:World}{A:Around}{E:Value->Shared->Prop}{s:Shared}{env:Env}{e C a:Addr}{d:Option Addr}
end
section
variable{P:Program}{w:World}{K:PySem.W.Frag}{mg:Str->Option Value}{base:Heap}{N:List Str}{qual:Str}{scope:Scope}{f:Addr}{cd:Value}{A:Around}{outer:List Env}{s0:Shared}{H0:Hp}{E:XK}
end
section
variable{X:Cx}{E:XK}{x:Str}{C a:Addr}{e:Expr}{es:List Expr}{t:TA}{np cpos pos p2:Pos}{j:Nat}
end
section
variable{X:Cx}{pos:Pos}{o i:Expr}{to ti:TE}
theorem gSb(ho:E X o to)(hi:E X i ti)(ha:∀v,assign (.Subscript o i pos) X.env v=(do
   let ov ←holding [v] (eval o X.env)
   let iv ←holding [v,ov] (eval i X.env)
   standAt pos
   holding [v,ov,iv] (setItem ov iv v)
   release [v,ov,iv] []):=by intro _;rfl):Gt X (.Subscript o i pos) (arN to ti aoS):=⟨ao3 ho.h hi.h amI ha⟩
end
section
variable{X:Cx}
end
section
variable{js:List Nat}{σ:St}{tt:TT}{te:TE}{Q:VK}{H1:Hp}
end
def ap0(l:List Nat)(lo hi:Option Int):List Nat:=(l.drop (HT.sIx l.length 0 lo)).take (HT.sIx l.length l.length hi-HT.sIx l.length 0 lo)
section
variable{X:Cx}
theorem apU(m:Nat):num m≠[]:=fun e=>Nat.toDigits_ne_nil (List.map_eq_nil_iff.mp e)
end
section
variable{prog:Program}{w:World}{A:Around}{E:Value->Shared->Prop}{s:Shared}{I:Addr}{fp wr:List Addr}{G:Array GenState->Array GenState->Prop}{n:Nat}{P:Nat->Value->Prop}{St:Nat->Shared->Prop}
end
section
variable{X:Cx}{o e:Expr}{to te:TE}{p rpos apos cpos:Pos}
end
section
variable{X:Cx}
end
section
variable{κ:Type}[DecidableEq κ]
def ae0(kvs:List (κ×V))(k:κ):Option V:=(kvs.find? fun kv=>decide (kv.1=k)).map (·.2)
def aoG(kvs:List (κ×V))(k:κ)(v:V):List (κ×V):=
 if (kvs.any fun kv=>decide (kv.1=k))=true then kvs.map (fun kv=>if kv.1=k then (kv.1,v) else kv) else kvs++[(k,v)]
def aoZ(kvs:List (κ×V))(k:κ):List (κ×V):=kvs.filter fun kv=>decide (kv.1≠k)
theorem ahK{p:κ×V}{r:List (κ×V)}{k:κ}(e:p.1=k):ae0 (p::r) k=some p.2:=by simp[ae0,List.find?_cons,e]
theorem ah4{p:κ×V}{r:List (κ×V)}{k:κ}(e:¬p.1=k):ae0 (p::r) k=ae0 r k:=by simp[ae0,List.find?_cons,e]
theorem KV.val{kvs:List (κ×V)}{vs:List (κ×Value)}(r:KV kvs vs)(k:κ):anZ (ae0 kvs k) (valueAt vs k):=by
 unfold KV at r
 induction r with
 |nil=>exact True.intro
 |@cons p q ps qs h t ih=>
  obtain⟨h1,h2⟩:=h
  by_cases e:p.1=k
  ·have e':q.1=k:=h1.symm.trans e
   have b:valueAt (q::qs) k=some q.2:=by simp[valueAt,List.find?_cons,e']
   rw[ahK e,b];exact h2
  ·have e':¬q.1=k:=fun z=>e (h1.trans z)
   have b:valueAt (q::qs) k=valueAt qs k:=by simp[valueAt,List.find?_cons,e']
   rw[ah4 e,b];exact ih
theorem KV.any{kvs:List (κ×V)}{vs:List (κ×Value)}(r:KV kvs vs)(k:κ):(kvs.any fun kv=>decide (kv.1=k))=vs.any fun kv=>decide (kv.1=k):=by
 unfold KV at r
 induction r with
 |nil=>rfl
 |cons h t ih=>rw[List.any_cons,List.any_cons,ih,h.1]
theorem KV.drop{kvs:List (κ×V)}{vs:List (κ×Value)}(r:KV kvs vs)(k:κ):KV (aoZ kvs k) (without vs k):=by
 unfold KV at r ⊢
 unfold aoZ without
 induction r with
 |nil=>exact .nil
 |@cons p q ps qs h t ih=>
  obtain⟨h1,h2⟩:=h
  rw[List.filter_cons,List.filter_cons]
  by_cases e:p.1=k
  ·have a:¬decide (p.1≠k)=true:=by simp[e]
   have b:¬decide (q.1≠k)=true:=by simp[h1.symm.trans e]
   rw[if_neg a,if_neg b];exact ih
  ·have e':¬q.1=k:=fun z=>e (h1.trans z)
   have a:decide (p.1≠k)=true:=by simp[e]
   have b:decide (q.1≠k)=true:=by simp[e']
   rw[if_pos a,if_pos b];exact .cons ⟨h1,h2⟩ ih
theorem KV.length{kvs:List (κ×V)}{vs:List (κ×Value)}(r:KV kvs vs):kvs.length=vs.length:=Paired.length r
end
abbrev KT(H:Hp):List (List Key×V)->List (List Key×Addr×Value)->Prop:=Paired fun p q=>p.1=q.1/\H q.2.1=some (.tup (p.1.map kV))/\RelV p.2 q.2.2
theorem KT.val{H:Hp}{kvs:List (List Key×V)}{xs:List (List Key×Addr×Value)}(r:KT H kvs xs)(k:List Key):anZ (ae0 kvs k) ((atKey xs k).map (·.2)):=by
 induction r with
 |nil=>exact True.intro
 |@cons p q ps qs h t ih=>
  obtain⟨h1,_,h2⟩:=h
  by_cases e:p.1=k
  ·have e':q.1=k:=h1.symm.trans e
   have b:atKey (q::qs) k=some q.2:=by simp[atKey,List.find?_cons,e']
   rw[ahK e,b];exact h2
  ·have e':¬q.1=k:=fun z=>e (h1.trans z)
   have b:atKey (q::qs) k=atKey qs k:=by simp[atKey,List.find?_cons,e']
   rw[ah4 e,b];exact ih
theorem KT.keeps{H H':Hp}{kvs:List (List Key×V)}{xs:List (List Key×Addr×Value)}(r:KT H kvs xs)(ht:∀b ys,H b=some (.tup ys)->H' b=some (.tup ys)):KT H' kvs xs:=
 Paired.mapP r fun _ _ z=>⟨z.1,ht _ _ z.2.1,z.2.2⟩
section
variable{P:Program}{w:World}{H:Hp}{h:Heap}{a:Addr}
end
def DGet(H:Hp)(a:Addr)(y:V)(r:Option V):Prop:=
 (∃kvs k,Rd H a (.dK kvs)/\y=kV k/\r=ae0 kvs k)∨∃kvs k b,Rd H a (.dT kvs)/\y=.ref b/\H b=some (.tup (k.map kV))/\r=ae0 kvs k
def DPut(H:Hp)(a:Addr)(y v:V)(H':Hp):Prop:=
 (∃kvs k,H a=some (.dK kvs)/\y=kV k/\kvs.length<sizeLine/\H'=upd H a (.dK (aoG kvs k v)))∨
 ∃kvs k b,H a=some (.dT kvs)/\y=.ref b/\H b=some (.tup (k.map kV))/\kvs.length<sizeLine/\H'=upd H a (.dT (aoG kvs k v))
theorem DGet.k{H:Hp}{a:Addr}{kvs:List (Key×V)}{k:Key}(e:H a=some (.dK kvs)):DGet H a (kV k) (ae0 kvs k):=.inl ⟨kvs,k,.inl e,rfl,rfl⟩
theorem DGet.t{H:Hp}{a b:Addr}{kvs:List (List Key×V)}{k:List Key}(e:H a=some (.dT kvs))(eb:H b=some (.tup (k.map kV))):DGet H a (.ref b) (ae0 kvs k):=.inr ⟨kvs,k,b,.inl e,rfl,eb,rfl⟩
theorem DPut.k{H:Hp}{a:Addr}{kvs:List (Key×V)}{k:Key}{v:V}(e:H a=some (.dK kvs))(hl:kvs.length<sizeLine):DPut H a (kV k) v (upd H a (.dK (aoG kvs k v))):=.inl ⟨kvs,k,e,rfl,hl,rfl⟩
theorem DPut.t{H:Hp}{a b:Addr}{kvs:List (List Key×V)}{k:List Key}{v:V}(e:H a=some (.dT kvs))(eb:H b=some (.tup (k.map kV)))(hl:kvs.length<sizeLine):
  DPut H a (.ref b) v (upd H a (.dT (aoG kvs k v))):=.inr ⟨kvs,k,b,e,rfl,eb,hl,rfl⟩
section
variable{X:Cx}{pins:List (Addr×Obj)}{σ:St}{H:Hp}{s:Shared}{a:Addr}{y v:V}{u r:Value}{o:Option V}{A:Around}{E:Value->Shared->Prop}
end
section
variable{X:Cx}{pins:List (Addr×Obj)}{σ:St}{H:Hp}{s:Shared}{a:Addr}{kvs:List (Key×V)}{k:Key}{u:Value}{A:Around}{E:Value->Shared->Prop}
end
section
variable{X:Cx}{o i e value:Expr}{pos pos' tpos:Pos}{td ty tv:TE}
end
section
variable{X:Cx}{pos:Pos}
end
section
variable{X:Cx}{pins:List (Addr×Obj)}{σ:St}{H:Hp}{s:Shared}{a:Addr}{y d:V}{u r:Value}{o:Option V}{A:Around}{E:Value->Shared->Prop}
end
section
variable{X:Cx}{o e f:Expr}{apos cpos:Pos}{td ty tx:TE}
end
section
variable{X:Cx}{pins:List (Addr×Obj)}{σ:St}{H:Hp}{s:Shared}{a:Addr}{kvs:List (Key×V)}{A:Around}{E:Value->Shared->Prop}
end
section
variable{X:Cx}{pins:List (Addr×Obj)}{σ:St}{H:Hp}{s:Shared}{a:Addr}{y:V}{u:Value}{A:Around}{E:Value->Shared->Prop}
end
section
variable{X:Cx}{k:Nat}{o i kx vx:Expr}{td ty tk tv:TE}{pos:Pos}{keys:List (Option Expr)}{values:List Expr}{trs:List (TE×TE)}
theorem alA:Op2 X (binaryOp .Mult) ar5:=⟨apE⟩
end
def Rise(xs:Array Nat):Prop:=xs.toList.Pairwise (·<·)
theorem Rise.lt{xs:Array Nat}(h:Rise xs){i k x y:Nat}(hi:xs[i]? =some x)(hk:xs[k]? =some y)(l:i<k):x<y:=by
 rw[←Array.getElem?_toList] at hi hk
 obtain⟨h1,e1⟩:=List.getElem?_eq_some_iff.mp hi
 obtain⟨h2,e2⟩:=List.getElem?_eq_some_iff.mp hk
 have:=List.pairwise_iff_getElem.mp h i k h1 h2 l
 rw[e1,e2] at this
 exact this
def Cut(xs:Array Nat)(j r:Nat):Prop:=r<=xs.size/\(∀i x,i<r->xs[i]? =some x->x<j)/\∀i x,r<=i->xs[i]? =some x->j<=x
theorem aeA{xs:Array Nat}{j:Nat}(hr:Rise xs):∀fuel lo hi:Nat,lo<=hi->hi<=xs.size->hi-lo<=fuel->(∀i x,i<lo->xs[i]? =some x->x<j)->(∀i x,hi<=i->xs[i]? =some x->j<=x)->Cut xs j (SetTable.below.go xs j fuel lo hi)
 |0,lo,hi,h1,h2,h3,a,b=>by
  have e:lo=hi:=by omega
  subst e
  exact⟨h2,a,b⟩
 |f+1,lo,hi,h1,h2,h3,a,b=>by
  unfold SetTable.below.go
  by_cases c:lo<hi
  ·rw[if_pos c]
   have hm:(lo+hi) / 2<xs.size:=by omega
   have em:xs[(lo+hi) / 2]? =some xs[(lo+hi) / 2]:=Array.getElem?_eq_getElem hm
   have eg:xs.getD ((lo+hi) / 2) j=xs[(lo+hi) / 2]:=by rw[Array.getD_eq_getD_getElem?,em];rfl
   dsimp only
   rw[eg]
   by_cases d:xs[(lo+hi) / 2]<j
   ·rw[if_pos d]
    refine aeA hr f _ _ (by omega) h2 (by omega) (fun i x hl hx=>?_) b
    by_cases q:i=(lo+hi) / 2
    ·subst q
     rw[em] at hx
     cases hx
     exact d
    ·exact Nat.lt_trans (hr.lt hx em (by omega)) d
   ·rw[if_neg d]
    refine aeA hr f _ _ (by omega) (by omega) (by omega) a fun i x hl hx=>?_
    by_cases q:i=(lo+hi) / 2
    ·subst q
     rw[em] at hx
     cases hx
     omega
    ·have:=hr.lt em hx (by omega)
     omega
  ·rw[if_neg c]
   have e:lo=hi:=by omega
   subst e
   exact⟨h2,a,b⟩
theorem adF{xs:Array Nat}(hr:Rise xs)(j:Nat):Cut xs j (SetTable.below xs j):=
 aeA hr _ _ _ (Nat.zero_le _) (Nat.le_refl _) (Nat.le_refl _) (fun _ _ h=>absurd h (Nat.not_lt_zero _)) fun i x h hx=>by
  obtain⟨z,_⟩:=Array.getElem?_eq_some_iff.mp hx
  omega
theorem anR{xs:Array Nat}{j:Nat}(hr:Rise xs)(h:(xs[SetTable.below xs j]? ==some j)=false):∀x∈xs.toList,x≠j:=fun x hx e=>by
 obtain⟨i,hi,ei⟩:=List.mem_iff_getElem.mp hx
 have e1:xs[i]? =some x:=by rw[←Array.getElem?_toList,List.getElem?_eq_getElem hi,ei]
 subst e
 obtain⟨c1,c2,c3⟩:=adF hr x
 have h1:¬i<SetTable.below xs x:=fun z=>Nat.lt_irrefl _ (c2 i x z e1)
 by_cases q:i=SetTable.below xs x
 ·rw[←q,e1] at h
  simp at h
 ·have hs:SetTable.below xs x<xs.size:=by
   obtain⟨z,_⟩:=Array.getElem?_eq_some_iff.mp e1
   omega
  have e2:xs[SetTable.below xs x]? =some xs[SetTable.below xs x]:=Array.getElem?_eq_getElem hs
  have:=c3 _ _ (Nat.le_refl _) e2
  have:=hr.lt e2 e1 (by omega)
  omega
theorem alD{α:Type}(xs:Array α)(p:Nat)(x:α):(SetTable.insertAt xs p x).toList=xs.toList.take p++x::xs.toList.drop p:=by
 unfold SetTable.insertAt
 simp[List.extract_eq_drop_take]
 exact List.take_of_length_le (by rw[List.length_drop,Array.length_toList];exact Nat.le_refl _)
theorem alP{xs:Array Nat}{j:Nat}(hr:Rise xs)(hn:∀x∈xs.toList,x≠j):Rise (SetTable.insertAt xs (SetTable.below xs j) j):=by
 obtain⟨c1,c2,c3⟩:=adF hr j
 unfold Rise
 rw[alD,List.pairwise_append,List.pairwise_cons]
 have hlow:∀a∈xs.toList.take (SetTable.below xs j),a<j:=fun a ha=>by
  obtain⟨i,hi,e⟩:=List.mem_iff_getElem.mp ha
  rw[List.getElem_take] at e
  rw[List.length_take] at hi
  have h2:i<xs.toList.length:=by omega
  exact c2 i a (by omega) (by rw[←Array.getElem?_toList,List.getElem?_eq_getElem h2,e])
 have hhigh:∀b∈xs.toList.drop (SetTable.below xs j),j<b:=fun b hb=>by
  have hb':=List.mem_of_mem_drop hb
  obtain⟨i,hi,e⟩:=List.mem_iff_getElem.mp hb
  rw[List.getElem_drop] at e
  rw[List.length_drop] at hi
  have h2:SetTable.below xs j+i<xs.toList.length:=by omega
  have:=c3 (SetTable.below xs j+i) b (by omega) (by rw[←Array.getElem?_toList,List.getElem?_eq_getElem h2,e])
  have:=hn b hb'
  omega
 refine⟨List.Pairwise.sublist (List.take_sublist _ _) hr,⟨hhigh,List.Pairwise.sublist (List.drop_sublist _ _) hr⟩,fun a ha b hb=>?_⟩
 rcases List.mem_cons.mp hb with rfl | hb
 ·exact hlow a ha
 ·exact Nat.lt_trans (hlow a ha) (hhigh b hb)
theorem aiT(n:Nat):Rise (Array.range n):=by
 unfold Rise
 rw[Array.toList_range]
 exact List.pairwise_lt_range
structure Tab(led:Bool)(t:SetTable):Prop where
 rise:Rise t.place
 dum:t.dummies= #[]
 led:t.led=led
theorem ahZ(j:Nat):SetTable.has #[] j=false:=by
 unfold SetTable.has
 simp
theorem adN{t:SetTable}{led:Bool}(T:Tab led t){h:Int}:∀(f:Nat) (p:SetTable.Probe) (j:Nat) (d:Option Nat),p.dummy=none->SetTable.probe.go t (fun _=>h+1) h f p=some (.empty j d)->d=none/\(t.place[SetTable.below t.place j]? ==some j)=false
 |0,_,_,_,_,e=>by unfold SetTable.probe.go at e;cases e
 |f+1,p,j,d,hp,e=>by
  unfold SetTable.probe.go at e
  split at e
  ·next hs=>
   cases e
   refine⟨hp,?_⟩
   unfold SetTable.slot at hs
   dsimp only at hs
   split at hs
   ·cases hs
   ·next q=>simpa using q
  ·next hs=>
   unfold SetTable.slot at hs
   dsimp only at hs
   split at hs
   ·cases hs
   ·rw[T.dum,ahZ] at hs
    cases hs
  ·rw[if_neg (by simp;omega)] at e
   refine adN T f _ j d ?_ e
   unfold SetTable.advance
   split
   ·exact hp
   ·exact hp
theorem acD{led:Bool}{t:SetTable}(T:Tab led t)(n:Nat):Tab led (t.standIn n):=⟨aiT n,rfl,T.led⟩
theorem apL{led:Bool}{t:SetTable}(T:Tab led t)(n:Nat):Tab led (t.orStandIn n):=by
 unfold SetTable.orStandIn
 split
 ·exact T
 ·exact acD T n
theorem am5{led:Bool}{t:SetTable}(T:Tab led t)(es:Array (Int×Value))(h:Int)(x:Value):Tab led (layNew t es h x).2.1:=by
 unfold layNew
 split
 ·next slot wd hf=>
  dsimp only
  refine apL ?_ _
  unfold SetTable.freeSlot at hf
  split at hf
  ·next j d hp=>
   obtain⟨rfl,hn⟩:=adN T _ _ j d rfl hp
   cases hf
   refine⟨alP T.rise (anR T.rise hn),?_,T.led⟩
   show (if SetTable.has t.dummies j=true then _ else t.dummies)=_
   rw[T.dum,ahZ]
   rfl
  ·cases hf
 ·exact acD T _
theorem akR{led:Bool}{t:SetTable}(T:Tab led t)(es:Array (Int×Value))(n:Nat):Tab led (relayAll t es n).2.1:=by
 unfold relayAll
 split
 ·next t' order hl=>
  dsimp only
  split
  ·unfold SetTable.relaid SetTable.laid at hl
   cases ho:SetTable.layClean (SetTable.sizeAbove n-1) (es.map (·.1)) with
   |none=>rw[ho] at hl;cases hl
   |some owner=>
    rw[ho] at hl
    cases hl
    refine⟨?_,rfl,T.led⟩
    unfold Rise
    dsimp only
    have key:∀(l:List Nat),l.Pairwise (·<·)->((l.filterMap fun j=>(owner.getD j none).map (j,·)).map (·.1)).Pairwise (·<·):=fun l hl=>by
     have e:(l.filterMap fun j=>(owner.getD j none).map (j,·)).map (·.1)=l.filter fun j=>(owner.getD j none).isSome:=by
      induction l with
      |nil=>rfl
      |cons a l ih=>
       have ih:=ih (List.pairwise_cons.mp hl).2
       cases q:owner.getD a none with
       |none=>rw[List.filterMap_cons_none (by rw[q];rfl),List.filter_cons_of_neg (by rw[q];simp),ih]
       |some b=>rw[List.filterMap_cons_some (by rw[q];rfl),List.filter_cons_of_pos (by rw[q];rfl),List.map_cons,ih]
     rw[e]
     exact List.Pairwise.sublist List.filter_sublist hl
    exact key _ List.pairwise_lt_range
  ·exact acD T _
 ·exact acD T _
def zOf:Value->Int
 |.int z _=>z
 |_=>0
def aa5(es:Array (Int×Value)):List Int:=es.toList.map fun e=>zOf e.2
def ah8(w:World):Bool:= !(w.params.followText "set-order")
structure SetE(prog:Program)(w:World)(es:Array (Int×Value))(t:SetTable):Prop where
 el:ElemsOf (intKind prog w) es.toList
 nd:(aa5 es).Nodup
 sz:es.size<scanBound
 fit:t.fits es.size=true
 tab:Tab (ah8 w) t
abbrev aaK(es:Array (Int×Value))(ep:Nat)(t:SetTable):Obj:={cls:=.type "set",dict:=none,data:=.set es ep t,slots:= #[]}
section
variable{prog:Program}{w:World}{A:Around}{E:Value->Shared->Prop}{s:Shared}{a:Addr}{es:Array (Int×Value)}{ep:Nat}{t:SetTable}{z:Int}{tk:Tok}
theorem ak9{k:Int}{v:Value}(h:(intKind prog w).is k v=true):∃t,v=.int k t:=Value.isInt_shape h
theorem ak7{e:Int×Value}(h:ElemsOf (intKind prog w) es.toList)(he:e∈es.toList):∃t,e.2=.int (zOf e.2) t:=by
 obtain⟨⟨k,hk,_⟩,_⟩:=h e he
 obtain⟨t,e2⟩:=ak9 hk
 exact⟨t,by rw[e2];rfl⟩
theorem ai6{es es':Array (Int×Value)}(p:es'.toList.Perm es.toList):(aa5 es').Perm (aa5 es):=p.map _
theorem ai8(hS:s.heap.get? a=some (aaK es ep t)){es':Array (Int×Value)}{t':SetTable}:(s.heap.update a (Obj.putSet es' t')).get? a=some (aaK es' (ep+1) t'):=
 Heap.get?_update_self (Obj.putSet es' t') hS rfl
theorem alB{Q:Bool->Shared->Prop}(hS:s.heap.get? a=some (aaK es ep t))(X:SetE prog w es t)(room:es.size+1<scanBound)
  (k:∀h' es' ep' t' b,Heap.SameBut a s.heap h'->h'.get? a=some (aaK es' ep' t')->SetE prog w es' t'->(∀x,x∈aa5 es'↔x∈aa5 es∨x=z)->es'.size<=es.size+1->Q b {s with heap:=h'}):
  wpAny (model prog w) A (setAddHashed a (.int z tk) ((intKind prog w).hash z)) Q E s:=by
 have key:(intKind prog w).is z (.int z tk)=true:=intKind_is _ _ _ _
 unfold setAddHashed setAddHashedIn
 refine wpAny_holding (wpAny_bind (wpAny_setState_of hS rfl X.fit ?_))
 dsimp only
 rw[byScan_of (knd:=intKind prog w) (x:=.int z tk) rfl X.sz X.el,if_pos rfl]
 unfold setAddByScan
 refine wpAny_bind (wpAny_bind (wpAny_rule (wpAny_bind (wpAny_setScan_of key hS rfl X.fit X.el ?_))))
 cases hr:List.findIdx? (fun e=>(intKind prog w).is z e.2) es.toList with
 |some j=>
  dsimp only
  obtain⟨hj,pj,_⟩:=List.findIdx?_eq_some_iff_getElem.mp hr
  have hz:z∈aa5 es:=List.mem_map.mpr ⟨es.toList[j],List.getElem_mem hj,by obtain⟨t2,e2⟩:=ak9 pj;rw[e2];rfl⟩
  refine wpAny_pure (wpAny_pure ?_)
  exact k s.heap es ep t _ (Heap.SameBut.refl a s.heap) hS X (fun x=>⟨.inl,fun h=>h.elim id fun e=>e▸hz⟩) (Nat.le_succ _)
 |none=>
  dsimp only
  have hz:z∉aa5 es:=fun hm=>by
   obtain⟨e,he,ez⟩:=List.mem_map.mp hm
   obtain⟨t2,e2⟩:=ak7 X.el he
   have:=List.findIdx?_eq_none_iff.mp hr e he
   rw[e2,ez,intKind_is] at this
   cases this
  have hperm:=layNew_perm t es ((intKind prog w).hash z) (.int z tk)
  have hfits:=layNew_fits t es ((intKind prog w).hash z) (.int z tk)
  have htab:=am5 X.tab es ((intKind prog w).hash z) (.int z tk)
  generalize layNew t es ((intKind prog w).hash z) (.int z tk)=L at hperm hfits htab ⊢
  obtain⟨es1,t1,wd,gave⟩:=L
  dsimp only at hperm hfits htab ⊢
  rw[Array.toList_push] at hperm
  have el1:ElemsOf (intKind prog w) es1.toList:=(X.el.push key rfl).perm hperm
  have zp:(aa5 es1).Perm (aa5 es++[z]):=by
   have:=hperm.map fun e:Int×Value=>zOf e.2
   rw[List.map_append] at this
   exact this
  have nd1:(aa5 es1).Nodup:=zp.nodup_iff.mpr (List.nodup_append.mpr ⟨X.nd,by simp,fun x hx y hy e=>by
   rw[List.mem_singleton] at hy
   exact hz (hy▸e▸hx)⟩)
  have mem1:∀x,x∈aa5 es1↔x∈aa5 es∨x=z:=fun x=>by rw[zp.mem_iff,List.mem_append,List.mem_singleton]
  have sz1:es1.size=es.size+1:=by rw[←Array.length_toList,hperm.length_eq,List.length_append,Array.length_toList];rfl
  have X1:∀pl:Bool,SetE prog w es1 {t1 with plain:=pl}:=fun pl=>⟨el1,nd1,by rw[sz1];exact room,hfits,⟨htab.rise,htab.dum,htab.led⟩⟩
  have tail:∀(t2:SetTable),SetE prog w es1 t2->∀(g:Bool->Sem Unit),(∀(b:Bool) (s₁:Shared) (Q':Unit->Shared->Prop),Q' () s₁->wpAny (model prog w) A (g b) Q' E s₁)->∀R:Option Bool->Shared->Prop,
    (∀h' es' ep' t' ,Heap.SameBut a s.heap h'->h'.get? a=some (aaK es' ep' t')->SetE prog w es' t'->(∀x,x∈aa5 es'↔x∈aa5 es∨x=z)->es'.size<=es.size+1->R (some true) {s with heap:=h'})->
    wpAny (model prog w) A (do
     storeSet a es1 t2
     if (!wd&&t2.tooFull)=true then do
       g (relayAll t2 es1 (SetTable.grown es1.size)).2.2
       storeSet a (relayAll t2 es1 (SetTable.grown es1.size)).1 (relayAll t2 es1 (SetTable.grown es1.size)).2.1
       pure (some true)
      else pure (some true)) R E s:=fun t2 X2 g hg R hR=>by
   refine wpAny_bind (wpAny_storeSet_of hS rfl ?_ (fits_of_scanBound X2.sz))
   have e1:=ai8 hS (es':=es1) (t':=t2)
   have b1:=Heap.SameBut.update s.heap a (Obj.putSet es1 t2)
   split
   ·have hp:=relayAll_perm t2 es1 (SetTable.grown es1.size)
    have hf:=relayAll_fits t2 es1 (SetTable.grown es1.size)
    have ht:=akR X2.tab es1 (SetTable.grown es1.size)
    generalize relayAll t2 es1 (SetTable.grown es1.size)=R2 at hp hf ht ⊢
    obtain⟨es2,t3,gave2⟩:=R2
    dsimp only at hp hf ht ⊢
    have sz2:es2.size=es1.size:=by rw[←Array.length_toList,hp.length_eq,Array.length_toList]
    have X3:SetE prog w es2 t3:=⟨X2.el.perm hp,(ai6 hp).nodup_iff.mpr X2.nd,by rw[sz2];exact X2.sz,hf,ht⟩
    refine wpAny_bind (hg _ _ _ (wpAny_bind (wpAny_storeSet_of e1 rfl ?_ (fits_of_scanBound X3.sz))))
    exact wpAny_pure (hR _ es2 _ t3 (b1.trans (Heap.SameBut.update _ a _)) (ai8 (s:={s with heap:=s.heap.update a (Obj.putSet es1 t2)}) e1) X3 (fun x=>by rw[(ai6 hp).mem_iff];exact mem1 x) (by rw[sz2,sz1];exact Nat.le_refl _))
   ·exact wpAny_pure (hR _ es1 _ t2 b1 e1 X2 mem1 (Nat.le_of_eq sz1))
  have fin:∀h' es' ep' t' ,Heap.SameBut a s.heap h'->h'.get? a=some (aaK es' ep' t')->SetE prog w es' t'->(∀x,x∈aa5 es'↔x∈aa5 es∨x=z)->es'.size<=es.size+1->Q true {s with heap:=h'}:=fun h' es' ep' t'=>k h' es' ep' t' true
  have gw:∀(b:Bool) (s₁:Shared) (Q':Unit->Shared->Prop),Q' () s₁->wpAny (model prog w) A (match b with | true=>rule "set.scan.the-table-gave-way" | false=>pure ()) Q' E s₁:=fun b s₁ Q' hq=>by
   cases b
   ·exact wpAny_pure hq
   ·exact wpAny_rule hq
  refine wpAny_bind (gw gave _ _ ?_)
  have X1':SetE prog w es1 t1:=X1 t1.plain
  split
  ·refine wpAny_bind ?_
   rw[hashByValue_scannable 8 (show (Value.int z tk).scannable=true from rfl)]
   refine wpAny_pure ?_
   exact tail t1 X1' _ gw _ fun h' es' ep' t' b e x m l=>wpAny_pure (fin h' es' ep' t' b e x m l)
  ·refine wpAny_bind (wpAny_pure ?_)
   exact tail t1 X1' _ gw _ fun h' es' ep' t' b e x m l=>wpAny_pure (fin h' es' ep' t' b e x m l)
end
section
variable{prog:Program}{w:World}{A:Around}{R:Result->Shared->Prop}{I:Addr}{fp wr:List Addr}{G:Array GenState->Array GenState->Prop}{n:Nat}{P:Nat->Value->Prop}{St:Nat->Shared->Prop}
theorem ahG{args:Args}{s:Shared}(h:wpAny (model prog w) A.in1 (Builtin.«set.update.loop» args) (fun x s'=>match x with | .done q=>R (.ok q) s' | .again c=>c.quiet=true/\codeAny (model prog w) A c R s') (fun x s'=>R (.error x) s') s):codeAny (model prog w) A (.builtin "set.update.loop" args) R s:=
 codeAny_builtin F.entry_set_update_loop (by rw[Around.under_plainId F.plain_set_update_loop args];exact h)
theorem aj6(W:WalksS prog w A.in1 I fp wr G n P St){S:Addr}(out:S∉fp){val:Nat->Int}(hval:∀i v,P i v->∃t,v=.int (val i) t)(hb:n+1<scanBound):
  ∀(k i:Nat) (s:Shared) (es:Array (Int×Value)) (ep:Nat) (t:SetTable),n-i=k->i<=n->St i s->s.heap.get? S=some (aaK es ep t)->SetE prog w es t->(∀x,x∈aa5 es↔∃j,j<i/\val j=x)->es.size<=i->
   (∀s' es' ep' t',Moved (S::wr) G s s'->s'.heap.get? S=some (aaK es' ep' t')->SetE prog w es' t'->(∀x,x∈aa5 es'↔∃j,j<n/\val j=x)->R (.ok (.ret .none)) s')->
   codeAny (model prog w) A (.builtin "set.update.loop" {pos:=[.ref S,.ref I]}) R s:=by
 have nw:S∉wr:=fun z=>out (W.sub _ z)
 have sub:∀b∈wr,b∈S::wr:=fun b hb=>List.mem_cons_of_mem _ hb
 intro k
 induction k with
 |zero=>
  intro i s es ep t hk hi st hS X hm hz hR
  obtain rfl:i=n:=by omega
  refine ahG ?_
  unfold Builtin.«set.update.loop»
  refine wpAny_bind (W.done s _ _ st fun s' mv=>?_)
  exact wpAny_pure (hR s' es ep t (mv.mono sub) (mv.heap S _ nw hS) X hm)
 |succ k ih=>
  intro i s es ep t hk hi st hS X hm hz hR
  have lt:i<n:=by omega
  refine ahG ?_
  unfold Builtin.«set.update.loop»
  refine wpAny_bind (W.item i s _ _ lt st fun v s1 hP st1 mv=>?_)
  obtain⟨tk,rfl⟩:=hval i v hP
  have S1:=mv.heap S _ nw hS
  unfold setAdd
  refine wpAny_bind (wpAny_holding (wpAny_holding (wpAny_bind ((intKind prog w).pyHash (k:=val i) (intKind_is _ _ _ _) (alB (s:={s1 with toks:=s1.toks+1}) S1 X (by omega) fun h' es' ep' t' b sb S2 X2 m2 z2=>?_)))))
  refine wpAny_pure ⟨plainId_quiet F.plain_set_update_loop _,ih (i+1) _ es' ep' t' (by omega) lt (W.frame _ s1 _ _ st1 (Nat.le_succ _) fun c hc o e=>?_) S2 X2 (fun x=>?_) (by omega) fun s2 es2 ep2 t2 mv2 S3 X3 m3=>?_⟩
  ·rw[sb.2 c fun z=>out (z▸hc)]
   exact e
  ·rw[m2,hm]
   constructor
   ·rintro (⟨j,hj,e⟩ | rfl)
    ·exact⟨j,by omega,e⟩
    ·exact⟨i,by omega,rfl⟩
   ·rintro⟨j,hj,e⟩
    by_cases c:j=i
    ·subst c;exact .inr e.symm
    ·exact .inl ⟨j,by omega,e⟩
  ·refine hR s2 es2 ep2 t2 (Moved.trans W.gtrans ((mv.mono sub).then_heap (Nat.le_succ _) fun c o hc e=>?_) mv2) S3 X3 m3
   rw[sb.2 c fun z=>hc (z▸List.mem_cons_self)]
   exact e
end
section
variable{prog:Program}{w:World}{A:Around}{E:Value->Shared->Prop}{s:Shared}
abbrev agM(w:World):Obj:=aaK #[] 0 (.fresh 0 0 (ah8 w))
theorem arK:SetE prog w #[] (.fresh 0 0 (ah8 w)):=⟨fun _ h=>by simp at h,by simp[aa5],by decide,rfl,⟨by unfold Rise;simp[SetTable.fresh],rfl,rfl⟩⟩
theorem alG(a:Value){Q₁:Value->Shared->Prop}(h:Q₁ (.ref s.heap.objs.size) {s with heap:=s.heap.push (agM w)}):codeAny (model prog w) A (.call (.builtin "set.__new__") ⟨[.type "set",a],[]⟩) (wants Q₁ E) s:=by
 have own:=sub_set_self
 refine codeAny_of_tree (wpAny_bind (m:=checkBuiltinCall "set.__new__" {pos:=[.type "set",a]}) (wpAny_of_eq (F.newCall_set_1 a) (wpAny_pure ⟨plainId_quiet F.plain_set_new _,codeAny_builtin F.entry_set_new ?_⟩)))
 rw[Around.under_plainId F.plain_set_new {pos:=[.type "set",a]}]
 simp only[Builtin.«set.__new__»,Builtin.Frozenset.newClass]
 obtain⟨h0,g0,d0,t0,o0⟩:=s
 wp_walk
 refine wpAny_askSetting (wpAny_pure ?_)
 dsimp only
 simp only[newObj]
 exact wpAny_bind (wpAny_alloc (wpAny_pure (wpAny_pure h)))
set_option maxHeartbeats 3200000 in
theorem akA{l:Addr}{items:Array Value}{ns:List Int}{Q:Value->Shared->Prop}(hh:A.handled=none)(hl:s.heap.IsList l items)(hi:IntsAre items.toList ns)(hb:items.size+1<scanBound)
  (k:∀(h':Heap) (tk:Nat) (es:Array (Int×Value)) (ep:Nat) (t:SetTable),h'.get? s.heap.objs.size=some (aaK es ep t)->SetE prog w es t->(∀x,x∈aa5 es↔x∈ns)->(∀b o,s.heap.get? b=some o->h'.get? b=some o)->Q (.ref s.heap.objs.size) {s with heap:=h',toks:=tk}):
  wpAny (model prog w) A (call (.type "set") [.ref l]) Q E s:=by
 obtain⟨⟨c0,tl0,m0⟩,m1,m2,m3,m4,m5⟩:=And.intro F.called_set.mro (And.intro F.called_set.made (And.intro F.called_set.sub (And.intro F.called_set.notType (And.intro F.called_set.canCreate (F.typeCall_set_1 (.ref l))))))
 refine wpAny_call (codeAny_of_tree (show wpAny _ _ (callAny (.type "set") _) _ _ _ from wpAny_pure ⟨Code.quiet_builtin _ (by decide +kernel),codeAny_builtin F.entry_type_call ?_⟩))
 rw[Around.under_plain (weight_type_call_type "set" [.ref l] []) (by rfl)]
 repeat any_goals (first | assumption | wp_step)
 refine codeAny_mono (alG (.ref l) (E:=E) (Q₁:=fun obj s₁=>obj=.ref s.heap.objs.size/\s₁={s with heap:=s.heap.push (agM w)}) ⟨rfl,rfl⟩) fun r s₁ hr=>?_
 cases r with
 |error e=>exact hr
 |ok fl=>
  cases fl with
  |ret obj=>
   obtain⟨rfl,rfl⟩:=hr
   have hS:(s.heap.push (agM w)).get? s.heap.objs.size=some (agM w):=Heap.get?_push_size _ rfl
   have hT:Shared.TypeIs {s with heap:=s.heap.push (agM w)} (.ref s.heap.objs.size) "set":=⟨_,hS,rfl⟩
   obtain⟨i1,i2⟩:=And.intro F.called_set.init.lookup (F.called_set.init.bind (.ref s.heap.objs.size))
   repeat any_goals (first | assumption | wp_step)
   refine codeAny_mono (codeAny_call_builtin (R:=wants (fun r s₂=>r=.none/\∃h' tk es ep t,s₂={s with heap:=h',toks:=tk}/\h'.get? s.heap.objs.size=some (aaK es ep t)/\SetE prog w es t/\(∀x,x∈aa5 es↔x∈ns)/\(∀b o,s.heap.get? b=some o->h'.get? b=some o)) E) F.called_set.init.plain F.entry_set_init (check_set_init_1 hT ?_)) fun r₂ s₂ hr₂=>?_
   ·obtain⟨⟨oc,od,odt,osl⟩,hol,hcl,nl,hdl⟩:=hl
    cases hcl
    cases hdl
    have hol':=Heap.get?_push_of_some (agM w) hol
    have s1:=F.sub_list_set
    have s2:=F.sub_list_frozenset
    have ne:(Value.type "list"==Value.type "dict")=false:=by decide
    have hl1:(s.heap.push (agM w)).IsList l items:=⟨_,hol',rfl,nl,rfl⟩
    simp only[Builtin.«set.__init__»,noKeywords,Builtin.Frozenset.updateFrom]
    generalize hPI:pyIter=PI
    wp_walk
    subst hPI
    refine wpAny_pyIter_list hl1 (wpAny_bind (wpAny_runValue ?_))
    have ll:l<s.heap.objs.size:=Heap.lt_size hol
    have h3:A.in1.in1.in1.handled=none:=by simp[hh]
    have nI:l≠(s.heap.push (agM w)).objs.size:=by rw[Heap.size_push];exact Nat.ne_of_lt (Nat.lt_succ_of_lt ll)
    have out:s.heap.objs.size∉[(s.heap.push (agM w)).objs.size,l]:=by
     rw[Heap.size_push]
     simp only[List.mem_cons,List.not_mem_nil,or_false,not_or]
     exact⟨Nat.ne_of_lt (Nat.lt_succ_self _),Nat.ne_of_gt ll⟩
    have val:∀(i:Nat) (v:Value),items[i]? =some v->∃t,v=.int ((fun i=>ns.getD i 0) i) t:=fun i v hv=>IntsAre.int_at hi i v (by rw[Array.getElem?_toList];exact hv)
    have ln:items.size=ns.length:=by rw[←Array.length_toList];exact IntsAre.length hi
    refine aj6 ((Walks.list h3 _ l nI items).toS) out val hb (items.size-0) 0 _ #[] 0 (.fresh 0 0 (ah8 w)) (by omega) (Nat.zero_le _) ⟨⟨_,Heap.get?_push_size _ rfl,rfl,rfl⟩,hl1.push _⟩ (Heap.get?_push_of_some _ hS) arK (fun x=>⟨fun z=>by simp[aa5] at z,fun ⟨j,hj,_⟩=>absurd hj (Nat.not_lt_zero _)⟩) (Nat.le_refl _) fun s' es ep t mv S' X' m'=>?_
    obtain⟨h',g',d',tk',os'⟩:=s'
    have eg:g'=s.gens:=mv.gens
    have ed:d'=s.drawn:=mv.drawn
    have eo:os'=s.os:=mv.os
    subst eg;subst ed;subst eo
    refine wpAny_pure (wpAny_pure ⟨rfl,h',tk',es,ep,t,rfl,S',X',fun x=>?_,fun b o e=>?_⟩)
    ·rw[m' x,ln]
     constructor
     ·rintro⟨j,hj,rfl⟩
      have:ns.getD j 0=ns[j]:=by rw[List.getD_eq_getElem?_getD,List.getElem?_eq_getElem hj];rfl
      rw[this]
      exact List.getElem_mem hj
     ·intro hx
      obtain⟨j,hj,e⟩:=List.mem_iff_getElem.mp hx
      exact⟨j,hj,by rw[List.getD_eq_getElem?_getD,List.getElem?_eq_getElem hj];exact e⟩
    ·have lb:=Heap.lt_size e
     refine mv.heap b o ?_ (Heap.get?_push_of_some _ (Heap.get?_push_of_some _ e))
     rw[Heap.size_push]
     simp only[List.mem_cons,List.not_mem_nil,or_false,not_or]
     exact⟨Nat.ne_of_lt lb,Nat.ne_of_lt (Nat.lt_succ_of_lt lb)⟩
   ·cases r₂ with
    |error e=>exact hr₂
    |ok fl₂=>
     cases fl₂ with
     |ret r=>
      obtain⟨rfl,h',tk,es,ep,t,rfl,S',X',m',k'⟩:=hr₂
      repeat any_goals (first | assumption | wp_step)
      exact k h' tk es ep t S' X' m' k'
     |_=>exact hr₂.elim
  |_=>exact hr.elim
end
theorem acW{α:Type}:∀(l:List α) (i:Nat) (h:i<l.length),(l[i]::l.eraseIdx i).Perm l
 |[],i,h=>by cases h
 |x::r,0,h=>List.Perm.refl _
 |x::r,i+1,h=>(List.Perm.swap x (r[i]'(by simpa using h)) _).trans (List.Perm.cons x (acW r i (by simpa using h)))
theorem ajC{α:Type}(next:Nat->Nat):∀(f k:Nat) (left:List α) (out:Array α),left.length=f->(pickOrder.go next f k left out).toList.Perm (out.toList++left)
 |0,k,left,out,h=>by
  rw[List.length_eq_zero_iff.mp h,List.append_nil]
  exact List.Perm.refl _
 |f+1,k,left,out,h=>by
  have hl:next k%left.length<left.length:=Nat.mod_lt _ (by omega)
  unfold pickOrder.go
  rw[List.getElem?_eq_getElem hl]
  dsimp only
  refine (ajC next f (k+1) (left.eraseIdx (next k%left.length)) (out.push left[next k%left.length]) (by rw[List.length_eraseIdx_of_lt hl,h];rfl)).trans ?_
  rw[Array.toList_push,List.append_assoc]
  exact List.Perm.append_left _ (acW _ _ hl)
theorem aj0{α:Type}(next:Nat->Nat)(xs:Array α):(pickOrder next xs).toList.Perm xs.toList:=by
 have:=ajC next xs.size 0 xs.toList #[] (Array.length_toList)
 rw[show (#[]:Array α).toList=[] from rfl,List.nil_append] at this
 exact this
section
variable{M:Model}{A:Around}{E:Value->Shared->Prop}{s:Shared}
theorem ag3{src:Source}{n:Nat}{Q:Nat->Shared->Prop}(hn:n≠0)(h:∀i d,i<n->Q i {s with drawn:=d}):wpAny M A (choose src n) Q E s:=fun Γ p hΓ=>⟨hn,h _ _ (Nat.mod_lt _ (Nat.pos_of_ne_zero hn))⟩
theorem afQ{α:Type}:∀(n:Nat) (xs:List α) (s:Shared) (Q:List α->Shared->Prop),xs.length=n->(∀ys d,ys.Perm xs->Q ys {s with drawn:=d})->wpAny M A (drawOrder n xs) Q E s
 |0,xs,s,Q,hn,h=>by
  rw[List.length_eq_zero_iff.mp hn] at h ⊢
  exact wpAny_pure (h [] s.drawn (List.Perm.refl _))
 |n+1,[],s,Q,hn,h=>by cases hn
 |n+1,x::r,s,Q,hn,h=>by
  unfold drawOrder
  refine wpAny_bind (ag3 (by simp) fun i d hi=>?_)
  rw[List.getElem?_eq_getElem hi]
  refine wpAny_bind (afQ n _ _ _ (by rw[List.length_eraseIdx_of_lt hi,hn];rfl) fun ys d2 hp=>wpAny_pure (h _ d2 ?_))
  exact (List.Perm.cons _ hp).trans (acW _ _ hi)
end
theorem ae2:entryFor table "set.__iter__"=some Builtin.«frozenset.__iter__»:=entryFor_alias (id':="frozenset.__iter__") (by decide +kernel) (by decide +kernel) (by decide +kernel) (by kernel_rfl)
theorem slot_set_itn:Slot "set_iterator" "__next__" "set_iterator.__next__":=
 .of (owner:="set_iterator") (n:="__next__") (by rw[typeLookup_type,builtinLookup_eq_fast];kernel_rfl) (by decide +kernel) (by decide +kernel) (by decide +kernel)
  (by first | exact .inl (by decide +kernel) | exact .inr (by decide +kernel)) (by rw[isSubtype_type];kernel_rfl)
theorem acO:entryFor table "set_iterator.__next__"=some Builtin.«set_iterator.__next__»:=entryFor_of_tree (by kernel_rfl)
theorem ac0(a:Value):argsOk "set_iterator.__next__" ⟨[a],[]⟩:=by unfold argsOk;kernel_rfl
abbrev sit(first:Value)(i:Nat)(a:Addr)(n ep:Nat):Obj:={cls:=.type "set_iterator",dict:=none,data:=.fields #[first,rawInt i,.ref a,rawInt n,rawInt ep],slots:= #[]}
section
variable{prog:Program}{w:World}{A:Around}{E:Value->Shared->Prop}{s:Shared}{a I:Addr}{es:Array (Int×Value)}{ep:Nat}{t:SetTable}
def abU(w:World)(a:Addr)(es:Array (Int×Value))(ep:Nat):List Value:=if w.params.followText "set-order" then (pickOrder (w.params.setOrder a ep) es).toList.map (·.2) else es.toList.map (·.2)
def aaO(w:World)(t:SetTable)(i:Nat):Nat:=if w.params.followText "set-order" then 0 else match i with
 |0=>0
 |i+1=>t.place.getD i 0+1
theorem akX:aaO w t 0=0:=by unfold aaO;split<;>rfl
theorem amD{i:Nat}(bt:w.params.followText "set-order"=false):aaO w t (i+1)=t.place.getD i 0+1:=by unfold aaO;rw[bt,if_neg (by simp)]
theorem ord_perm:(abU w a es ep).Perm (es.toList.map (·.2)):=by
 unfold abU
 split
 ·exact (aj0 _ _).map _
 ·exact List.Perm.refl _
theorem agO:(abU w a es ep).length=es.size:=by rw[ord_perm.length_eq,List.length_map,Array.length_toList]
theorem acT{Q:Bool->Shared->Prop}(h:Q (w.params.followText "set-order") s):wpAny (model prog w) A setsByText Q E s:=by
 unfold setsByText
 exact wpAny_bind (wpAny_askSetting (wpAny_pure h))
theorem alY{Q:Option (Value×Nat)->Shared->Prop}{i:Nat}(hS:s.heap.get? a=some (aaK es ep t))(X:SetE prog w es t)(nd:w.params.followText "set-order"=true∨(!t.plain&&decide (es.size>1))=false)(hi:i<=es.size)
  (h:Q ((abU w a es ep)[i]?.map fun v=>(v,aaO w t (i+1))) s):wpAny (model prog w) A (setNext a (aaO w t i) i ep) Q E s:=by
 unfold setNext
 refine wpAny_bind (wpAny_setState_of hS rfl X.fit ?_)
 dsimp only
 refine wpAny_bind (acT ?_)
 cases bt:w.params.followText "set-order" with
 |true=>
  rw[if_pos rfl,if_neg (by simp)]
  refine wpAny_bind ?_
  unfold setWalk
  refine wpAny_bind (wpAny_setState_of hS rfl X.fit ?_)
  dsimp only
  refine wpAny_bind (acT ?_)
  rw[bt,if_pos rfl]
  refine wpAny_bind (wpAny_askSetting (wpAny_pure (wpAny_pure ?_)))
  have e:abU w a es ep=(pickOrder (w.params.setOrder a ep) es).toList.map (·.2):=by unfold abU;rw[bt,if_pos rfl]
  rw[e,List.getElem?_map,Array.getElem?_toList,Option.map_map] at h
  have e2:aaO w t (i+1)=aaO w t i:=by unfold aaO;rw[bt,if_pos rfl,if_pos rfl]
  rw[e2] at h
  exact h
 |false=>
  have nd':(!t.plain&&decide (es.size>1))=false:=nd.resolve_left (by rw[bt];simp)
  have led:t.led=true:=by rw[X.tab.led];unfold ah8;rw[bt];rfl
  have fit:t.place.size=es.size:=by
   have:=X.fit
   simp only[SetTable.fits,Bool.and_eq_true,beq_iff_eq] at this
   exact this.1
  rw[if_neg (by simp)]
  change wpAny _ _ (if (!t.plain&&decide (es.size>1))=true then _ else _) _ _ _
  rw[if_neg (by rw[nd'];simp)]
  refine wpAny_bind ?_
  change wpAny _ _ (if (!t.led&& !es.isEmpty)=true then _ else _) _ _ _
  rw[if_neg (by rw[led];simp)]
  refine wpAny_pure (wpAny_pure ?_)
  have e:abU w a es ep=es.toList.map (·.2):=by unfold abU;rw[bt,if_neg (by simp)]
  have cut:SetTable.below t.place (aaO w t i)=i:=by
   obtain⟨c1,c2,c3⟩:=adF X.tab.rise (aaO w t i)
   have at':∀k,k<t.place.size->t.place[k]? =some (t.place.getD k 0):=fun k hk=>by rw[Array.getD_eq_getD_getElem?,Array.getElem?_eq_getElem hk];rfl
   cases i with
   |zero=>
    rcases Nat.eq_zero_or_pos (SetTable.below t.place (aaO w t 0)) with z | z
    ·exact z
    ·have:=c2 0 _ z (at' 0 (by omega))
     rw[akX] at this
     exact absurd this (Nat.not_lt_zero _)
   |succ i=>
    have e0:aaO w t (i+1)=t.place.getD i 0+1:=amD bt
    have hi':i<t.place.size:=by omega
    have l1:¬SetTable.below t.place (aaO w t (i+1))<=i:=fun z=>by
     have:=c3 i _ z (at' i hi')
     omega
    have l2:¬i+1<SetTable.below t.place (aaO w t (i+1)):=fun z=>by
     have h1:i+1<t.place.size:=by omega
     have:=c2 (i+1) _ z (at' (i+1) h1)
     have:=X.tab.rise.lt (at' i hi') (at' (i+1) h1) (Nat.lt_succ_self i)
     omega
    omega
  rw[cut]
  rw[e,List.getElem?_map,Array.getElem?_toList,Option.map_map] at h
  by_cases c:i<es.size
  ·rw[Array.getElem?_eq_getElem c,Array.getElem?_eq_getElem (show i<t.place.size by omega)]
   rw[Array.getElem?_eq_getElem c] at h
   have e2:aaO w t (i+1)=t.place[i]'(by omega)+1:=by
    rw[amD bt,Array.getD_eq_getD_getElem?,Array.getElem?_eq_getElem (show i<t.place.size by omega)]
    rfl
   rw[e2] at h
   exact h
  ·rw[Array.getElem?_eq_none (by omega),Array.getElem?_eq_none (by omega)]
   rw[Array.getElem?_eq_none (by omega)] at h
   exact h
abbrev arE:Obj:={cls:=.type "tuple",data:=.seq #[]}
abbrev arZ(a:Addr):Obj:={cls:=.type "StopIteration",data:=.fields (#[Value.ref a,.none,.none,.none,.bool false,.none]++ownMembersOf (.type "StopIteration") [])}
theorem af1{β:Type}{Q:β->Shared->Prop}(hh:A.handled=none)(h:E (.ref (s.heap.push arE).objs.size) {s with heap:=(s.heap.push arE).push (arZ s.heap.objs.size)}):
  wpAny (model prog w) A (do raiseNew (←newExc (.type "StopIteration") []):Sem β) Q E s:=by
 refine wpAny_bind ?_
 simp only[newExc,newTuple]
 refine wpAny_bind (wpAny_newObj_type (wpAny_bind (m:=firstArgMember _ _) (wpAny_of_eq (a:=Value.none) (by simp only[firstArgMember];rfl) (wpAny_newObj_type ?_ (by size_fits)))) (by size_fits))
 unfold raiseNew
 refine wpAny_bind (wpAny_handled ?_)
 rw[hh]
 exact wpAny_bind (wpAny_pure (wpAny_throw h))
theorem abD{f:Value}{i n ep:Nat}(h:s.heap.get? I=some (sit f i a n ep)):s.TypeIs (.ref I) "set_iterator":=⟨_,h,rfl⟩
theorem ah5{i:Nat}{Q:Option Value->Shared->Prop}(hh:A.handled=none)(ne:a≠I)(hI:s.heap.get? I=some (sit (rawInt (aaO w t i)) i a es.size ep))(hS:s.heap.get? a=some (aaK es ep t))(X:SetE prog w es t)
  (nd:w.params.followText "set-order"=true∨(!t.plain&&decide (es.size>1))=false) (hi:i<=es.size)
  (k:∀v h',(abU w a es ep)[i]? =some v->h'.get? I=some (sit (rawInt (aaO w t (i+1))) (i+1) a es.size ep)->(∀b o,b≠I->s.heap.get? b=some o->h'.get? b=some o)->Q (some v) {s with heap:=h'})
  (k0:(abU w a es ep)[i]? =none->∀h',(∀b o,b≠I->s.heap.get? b=some o->h'.get? b=some o)->Q none {s with heap:=h'}):wpAny (model prog w) A (pyNext (.ref I)) Q E s:=by
 unfold pyNext
 refine wpAny_bind (wpAny_attempt (wpAny_callSpecial?_slot (name:=Str.ofString "__next__") (abD hI) slot_set_itn (wpAny_call_entry slot_set_itn (abD hI) acO ?_ (ac0 _))))
 unfold Builtin.«set_iterator.__next__»
 refine wpAny_bind (m:=slotArgs _ _ _) (wpAny_pure ?_)
 refine wpAny_bind (wpAny_fieldsOf hI rfl ?_)
 simp only[rawInt]
 unfold setEntries
 refine wpAny_bind (wpAny_bind (wpAny_setState_of hS rfl X.fit (wpAny_pure ?_)))
 rw[if_neg (by simp)]
 simp only[Int.toNat_natCast]
 refine wpAny_bind (alY hS X nd hi ?_)
 cases ho:(abU w a es ep)[i]? with
 |some v=>
  dsimp only[Option.map]
  refine wpAny_bind (wpAny_setField hI rfl (show 0<5 by decide) ?_)
  have h1:=Heap.get?_update_self (Obj.mapFields (·.setIfInBounds 0 (Value.int (aaO w t (i+1)) 0))) hI rfl
  refine wpAny_bind (wpAny_setField h1 rfl (show 1<5 by decide) ?_)
  have h2:=Heap.get?_update_self (Obj.mapFields (·.setIfInBounds 1 (Value.int ((i:Int)+1) 0))) h1 rfl
  refine wpAny_pure ⟨v,rfl,wpAny_pure (k v _ ho ?_ fun b o nb e=>?_)⟩
  ·rw[h2]
   show some _=some _
   congr 1
  ·rw[Heap.get?_update_other _ _ (Ne.symm nb),Heap.get?_update_other _ _ (Ne.symm nb)]
   exact e
 |none=>
  dsimp only[Option.map]
  refine wpAny_bind (wpAny_setField hI rfl (show 2<5 by decide) (af1 hh ?_))
  refine wpAny_bind (wpAny_isInstance (T:="StopIteration") (b:=true) ⟨_,Heap.get?_push_size _ rfl,rfl⟩ isSubtype_stop (wpAny_pure (k0 ho _ fun b o nb e=>?_)))
  refine Heap.get?_push_of_some _ (Heap.get?_push_of_some _ ?_)
  rw[Heap.get?_update_other _ _ (Ne.symm nb)]
  exact e
theorem af0{i:Nat}{T:Addr}{ys:List Nat}{Q:Option Value->Shared->Prop}(hh:A.handled=none)(hI:s.heap.get? I=some (sit (.ref T) i a es.size ep))(hT:s.heap.get? T=some {cls:=.type "tuple",data:=.seq (ys.map fun (y:Nat)=>rawInt y).toArray})(hS:s.heap.get? a=some (aaK es ep t))(X:SetE prog w es t)
  (hy:∀y∈ys,y<es.size)
  (k:∀y v h',ys[i]? =some y->(es.toList.map (·.2))[y]? =some v->h'.get? I=some (sit (.ref T) (i+1) a es.size ep)->(∀b o,b≠I->s.heap.get? b=some o->h'.get? b=some o)->Q (some v) {s with heap:=h'})
  (k0:ys[i]? =none->∀h',(∀b o,b≠I->s.heap.get? b=some o->h'.get? b=some o)->Q none {s with heap:=h'}):wpAny (model prog w) A (pyNext (.ref I)) Q E s:=by
 unfold pyNext
 refine wpAny_bind (wpAny_attempt (wpAny_callSpecial?_slot (name:=Str.ofString "__next__") (abD hI) slot_set_itn (wpAny_call_entry slot_set_itn (abD hI) acO ?_ (ac0 _))))
 unfold Builtin.«set_iterator.__next__»
 refine wpAny_bind (m:=slotArgs _ _ _) (wpAny_pure (wpAny_bind (wpAny_fieldsOf hI rfl ?_)))
 simp only[rawInt]
 unfold setEntries
 refine wpAny_bind (wpAny_bind (wpAny_setState_of hS rfl X.fit (wpAny_pure ?_)))
 rw[if_neg (by simp)]
 refine wpAny_bind (wpAny_seqItems hT rfl ?_)
 have eg:((ys.map fun (y:Nat)=>rawInt y).toArray)[(i:Int).toNat]? =(ys[i]?).map fun (y:Nat)=>rawInt y:=by
  rw[Int.toNat_natCast,List.getElem?_toArray,List.getElem?_map]
 dsimp only
 rw[eg]
 cases ho:ys[i]? with
 |some y=>
  have hlt:=hy y (List.mem_of_getElem? ho)
  have ev:(es.toList.map (·.2))[y]? =some es[y].2:=by rw[List.getElem?_map,Array.getElem?_toList,Array.getElem?_eq_getElem hlt];rfl
  dsimp only[Option.map,rawInt]
  unfold setNextDrawn
  refine wpAny_bind (wpAny_bind (wpAny_setState_of hS rfl X.fit ?_))
  dsimp only
  rw[if_neg (by simp)]
  simp only[Int.toNat_natCast]
  rw[Array.getElem?_eq_getElem hlt]
  refine wpAny_pure (wpAny_bind (wpAny_setField hI rfl (show 1<5 by decide) ?_))
  have h2:=Heap.get?_update_self (Obj.mapFields (·.setIfInBounds 1 (Value.int ((i:Int)+1) 0))) hI rfl
  refine wpAny_pure ⟨es[y].2,rfl,wpAny_pure (k y _ _ ho ev ?_ fun b o nb e=>?_)⟩
  ·rw[h2]
   show some _=some _
   congr 1
  ·rw[Heap.get?_update_other _ _ (Ne.symm nb)]
   exact e
 |none=>
  dsimp only[Option.map]
  refine wpAny_bind (wpAny_setField hI rfl (show 0<5 by decide) ?_)
  have h1:=Heap.get?_update_self (Obj.mapFields (·.setIfInBounds 0 (Value.int 0 0))) hI rfl
  refine wpAny_bind (wpAny_setField h1 rfl (show 2<5 by decide) (af1 hh ?_))
  refine wpAny_bind (wpAny_isInstance (T:="StopIteration") (b:=true) ⟨_,Heap.get?_push_size _ rfl,rfl⟩ isSubtype_stop (wpAny_pure (k0 ho _ fun b o nb e=>?_)))
  refine Heap.get?_push_of_some _ (Heap.get?_push_of_some _ ?_)
  rw[Heap.get?_update_other _ _ (Ne.symm nb),Heap.get?_update_other _ _ (Ne.symm nb)]
  exact e
theorem ac4:Slot "set_iterator" "__iter__" "set_iterator.__iter__":=
 .of (owner:="set_iterator") (n:="__iter__") (by rw[typeLookup_type,builtinLookup_eq_fast];kernel_rfl) (by decide +kernel) (by decide +kernel) (by decide +kernel)
  (by first | exact .inl (by decide +kernel) | exact .inr (by decide +kernel)) (by rw[isSubtype_type];kernel_rfl)
theorem afF:entryFor table "set_iterator.__iter__"=some Builtin.«dict_keyiterator.__iter__»:=entryFor_alias (id':="dict_keyiterator.__iter__") (by decide +kernel) (by decide +kernel) (by decide +kernel) (by kernel_rfl)
theorem agN(a:Value):argsOk "set_iterator.__iter__" ⟨[a],[]⟩:=by unfold argsOk;kernel_rfl
theorem ag4{f:Value}{i n:Nat}{Q:Value->Shared->Prop}(hI:s.heap.get? I=some (sit f i a n ep))(h:Q (.ref I) s):wpAny (model prog w) A (pyIter (.ref I)) Q E s:=by
 refine wpAny_pyIter_slot (abD hI) ac4 (wpAny_call_entry ac4 (abD hI) afF ?_ (agN _))
 unfold Builtin.«dict_keyiterator.__iter__»
 exact wpAny_bind (m:=slotArgs _ _ _) (wpAny_pure (wpAny_pure ⟨_,rfl,"set_iterator",_,abD hI,slot_set_itn.lookup,h⟩))
theorem akV(hh:A.handled=none)(ne:a≠I)(X:SetE prog w es t)(nd:w.params.followText "set-order"=true∨(!t.plain&&decide (es.size>1))=false):
  Walks prog w A I [I,a] [I] es.size (fun i v=>(abU w a es ep)[i]? =some v) (fun i h=>i<=es.size/\h.get? I=some (sit (rawInt (aaO w t i)) i a es.size ep)/\h.get? a=some (aaK es ep t)) where
 sub:=fun b hb=>by simp at hb;simp[hb]
 frame:=fun i h h' st k=>⟨st.1,k I (by simp) _ st.2.1,k a (by simp) _ st.2.2⟩
 item:=fun i s Q E hi st k=>ah5 hh ne st.2.1 st.2.2 X nd st.1 (fun v h' ho hI' kp=>k v h' s.toks ho ⟨hi,hI',kp a _ ne st.2.2⟩ fun b o nb e=>kp b o (fun z=>nb (by simp[z])) e) fun ho=>by
  have:=List.getElem?_eq_none_iff.mp ho
  have hl:=agO (w:=w) (a:=a) (es:=es) (ep:=ep)
  omega
 done:=fun s Q E st k=>ah5 hh ne st.2.1 st.2.2 X nd st.1 (fun v h' ho=>by
  obtain⟨z,_⟩:=List.getElem?_eq_some_iff.mp ho
  have hl:=agO (w:=w) (a:=a) (es:=es) (ep:=ep)
  omega) fun _ h' kp=>k h' s.toks fun b o nb e=>kp b o (fun z=>nb (by simp[z])) e
 self:=fun i s Q E st k=>ag4 st.2.1 k
theorem aiH{T:Addr}{ys:List Nat}(hh:A.handled=none)(ne:a≠I)(nT:T≠I)(X:SetE prog w es t)(hp:ys.Perm (List.range es.size)):
  Walks prog w A I [I,a,T] [I] es.size (fun i v=>∃y,ys[i]? =some y/\(es.toList.map (·.2))[y]? =some v) (fun i h=>h.get? I=some (sit (.ref T) i a es.size ep)/\h.get? a=some (aaK es ep t)/\h.get? T=some {cls:=.type "tuple",data:=.seq (ys.map fun (y:Nat)=>rawInt y).toArray}) where
 sub:=fun b hb=>by simp at hb;simp[hb]
 frame:=fun i h h' st k=>⟨k I (by simp) _ st.1,k a (by simp) _ st.2.1,k T (by simp) _ st.2.2⟩
 item:=fun i s Q E hi st k=>af0 hh st.1 st.2.2 st.2.1 X (fun y hy=>by simpa using hp.mem_iff.mp hy) (fun y v h' h1 h2 hI' kp=>k v h' s.toks ⟨y,h1,h2⟩ ⟨hI',kp a _ ne st.2.1,kp T _ nT st.2.2⟩ fun b o nb e=>kp b o (fun z=>nb (by simp[z])) e) fun ho=>by
  have:=List.getElem?_eq_none_iff.mp ho
  have hl:=hp.length_eq
  rw[List.length_range] at hl
  omega
 done:=fun s Q E st k=>af0 hh st.1 st.2.2 st.2.1 X (fun y hy=>by simpa using hp.mem_iff.mp hy) (fun y v h' ho=>by
  obtain⟨z,_⟩:=List.getElem?_eq_some_iff.mp ho
  have hl:=hp.length_eq
  rw[List.length_range] at hl
  omega) fun _ h' kp=>k h' s.toks fun b o nb e=>kp b o (fun z=>nb (by simp[z])) e
 self:=fun i s Q E st k=>ag4 st.1 k
theorem ak5{Q:Value->Shared->Prop}(hS:s.heap.get? a=some (aaK es ep t))(X:SetE prog w es t)
  (k:(w.params.followText "set-order"=true∨(!t.plain&&decide (es.size>1))=false)->Q (.ref s.heap.objs.size) {s with heap:=s.heap.push (sit (rawInt 0) 0 a es.size ep)})
  (kD:∀(ys:List Nat) (d:Drawn),ys.Perm (List.range es.size)->Q (.ref (s.heap.objs.size+1)) {s with heap:=(s.heap.push {cls:=.type "tuple",data:=.seq (ys.map fun (y:Nat)=>rawInt y).toArray}).push (sit (.ref s.heap.objs.size) 0 a es.size ep),drawn:=d}):
  wpAny (model prog w) A (pyIter (.ref a)) Q E s:=by
 have hT:s.TypeIs (.ref a) "set":=⟨_,hS,rfl⟩
 refine wpAny_pyIter_slot hT F.slot_set_iter (wpAny_call_entry F.slot_set_iter hT ae2 ?_ (F.args_set_iter_1 _))
 unfold Builtin.«frozenset.__iter__» Builtin.Frozenset.slot0
 refine wpAny_bind (wpAny_bind (m:=slotArgs _ _ _) (wpAny_pure (wpAny_pure ?_)))
 unfold Builtin.Frozenset.sizeOf setEntries
 refine wpAny_bind (wpAny_bind (wpAny_bind (wpAny_setState_of hS rfl X.fit (wpAny_pure (wpAny_pure ?_)))))
 unfold setDrawn
 refine wpAny_bind (wpAny_bind (wpAny_setState_of hS rfl X.fit ?_))
 refine wpAny_bind (acT (wpAny_pure ?_))
 have sl:=fits_of_scanBound X.sz
 dsimp only
 change wpAny _ _ (if (!w.params.followText "set-order"&&(!t.plain&&decide (es.size>1)))=true then _ else _) _ _ _
 by_cases c:(!w.params.followText "set-order"&&(!t.plain&&decide (es.size>1)))=true
 ·rw[if_pos c]
  refine wpAny_bind (afQ es.size (List.range es.size) s _ List.length_range fun ys d hp=>?_)
  unfold newTuple
  refine wpAny_bind (wpAny_newObj_type ?_ (by show (ys.map fun (y:Nat)=>rawInt y).toArray.size<=_;rw[List.size_toArray,List.length_map,hp.length_eq,List.length_range];omega))
  refine wpAny_bind (wpAny_setEpoch_of (Heap.get?_push_of_some _ hS) rfl X.fit ?_)
  unfold newFields
  refine wpAny_bind (wpAny_newObj_type (wpAny_pure ⟨_,rfl,"set_iterator",_,⟨_,Heap.get?_push_size _ rfl,rfl⟩,slot_set_itn.lookup,?_⟩))
  have:=kD ys d hp
  rw[Heap.size_push]
  exact this
 ·rw[if_neg c]
  refine wpAny_bind (wpAny_pure (wpAny_bind (wpAny_setEpoch_of hS rfl X.fit ?_)))
  unfold newFields
  refine wpAny_bind (wpAny_newObj_type (wpAny_pure ⟨_,rfl,"set_iterator",_,⟨_,Heap.get?_push_size _ rfl,rfl⟩,slot_set_itn.lookup,k ?_⟩))
  cases q:w.params.followText "set-order" with
  |true=>exact .inl rfl
  |false=>
   refine .inr ?_
   rw[q] at c
   simpa using c
theorem ah0{Q:Bool->Shared->Prop}(hT:s.TypeIs (.ref a) "set")(h:Q false s):wpAny (model prog w) A (Builtin.List.listLengthHint (.ref a)) Q E s:=by
 unfold Builtin.List.listLengthHint
 refine wpAny_bind (wpAny_specialOf hT F.slot_set_len.lookup ?_)
 generalize hid:("set.__len__":String)=id0
 wp_delta
 have parts:splitId id0=some ("set","__len__"):=by subst hid;decide +kernel
 rw[parts]
 subst hid
 refine wpAny_bind (wpAny_isInstance (T:="set") (b:=true) hT (by rw[isSubtype_type];kernel_rfl) ?_)
 refine wpAny_ite_split (fun z=>absurd z (by decide)) (fun _=>wpAny_ite_split (fun _=>wpAny_bind (wpAny_typeOf hT (wpAny_pure h))) fun z=>absurd (by decide +kernel) z)
end
section
variable{prog:Program}{w:World}{A:Around}{E:Value->Shared->Prop}{s:Shared}{a I:Addr}{es:Array (Int×Value)}{ep:Nat}{t:SetTable}
theorem ah9{xs:List Value}{acc:Array Value}{n:Nat}(hn:xs.length=n)(its:ItemsOf (fun i v=>xs[i]? =some v) acc n):acc.toList=xs:=by
 refine List.ext_getElem? fun i=>?_
 rw[Array.getElem?_toList]
 by_cases c:i<acc.size
 ·have e:=Array.getElem?_eq_getElem c
  rw[e,its.2 i _ e]
 ·rw[Array.getElem?_eq_none (by omega),List.getElem?_eq_none (by have:=its.1;omega)]
theorem aiU{R:Result->Shared->Prop}{S:Addr}(hh:A.handled=none)(hS:s.heap.get? a=some (aaK es ep t))(X:SetE prog w es t)(ne:S≠a)(hL:s.heap.get? S=some {cls:=.type "list",data:=.seq #[]})
  (k:∀(s':Shared) (acc:Array Value) (c:Nat),acc.toList.Perm (es.toList.map (·.2))->(∀b o,b≠S->s.heap.get? b=some o->s'.heap.get? b=some o)->s'.gens=s.gens->s'.os=s.os->s'.heap.get? S=some {cls:=.type "list",data:=.seq acc c}->R (.ok (.ret (.ref S))) s'):
  wpAny (model prog w) A.in1 (Builtin.List.listExtendWith (.ref S) (.ref a) (.ref S)) (fun fin s'=>match fin with | .done f=>R (.ok f) s' | .again c'=>c'.quiet=true/\codeAny (model prog w) A c' R s') (fun e s'=>R (.error e) s') s:=by
 have sl:=fits_of_scanBound X.sz
 have la:a<s.heap.objs.size:=Heap.lt_size hS
 have lS:S<s.heap.objs.size:=Heap.lt_size hL
 have apart:Builtin.List.listSameRef (.ref S) (.ref a)=false:=by simp[Builtin.List.listSameRef,ne]
 unfold Builtin.List.listExtendWith
 refine wpAny_bind (wpAny_typeOf (T:="set") ⟨_,hS,rfl⟩ ?_)
 rw[if_neg (by rw[apart];decide)]
 refine wpAny_bind (ak5 hS X (fun nd=>?_) fun ys d hp=>?_)
 ·have HS:(s.heap.push (sit (rawInt 0) 0 a es.size ep)).get? a=some (aaK es ep t):=Heap.get?_push_of_some _ hS
  have LS:(s.heap.push (sit (rawInt 0) 0 a es.size ep)).get? S=some {cls:=.type "list",data:=.seq #[]}:=Heap.get?_push_of_some _ hL
  have W:=akV (A:=A.in1) (ep:=ep) (I:=s.heap.objs.size) hh (Nat.ne_of_lt la) X nd
  have ST:0<=es.size/\(s.heap.push (sit (rawInt 0) 0 a es.size ep)).get? s.heap.objs.size=some (sit (rawInt (aaO w t 0)) 0 a es.size ep)/\(s.heap.push (sit (rawInt 0) 0 a es.size ep)).get? a=some (aaK es ep t):=⟨Nat.zero_le _,by rw[akX];exact Heap.get?_push_size s.heap (o:=sit (rawInt 0) 0 a es.size ep) rfl,HS⟩
  refine wpAny_bind (wpAny_holding (ah0 ⟨_,HS,rfl⟩ ?_))
  rw[if_pos (by decide)]
  refine wpAny_bind (wpAny_rule (wpAny_bind (show wpAny _ _ (updateSeq S (fun l=>l.push Value.none) >>=fun _=>updateSeq S fun l=>l.pop) _ _ _ from wpAny_bind (wpAny_updateSeq LS rfl ?_))))
  have S1:=Heap.get?_update_self (Obj.mapSeq (·.push Value.none)) LS rfl
  refine wpAny_updateSeq (hz:=by seq_fits) S1 rfl ?_
  have S2:=Heap.get?_update_self (Obj.mapSeq (·.pop)) S1 rfl
  have oth:∀b o,b≠S->(s.heap.push (sit (rawInt 0) 0 a es.size ep)).get? b=some o->(((s.heap.push (sit (rawInt 0) 0 a es.size ep)).update S (Obj.mapSeq (·.push Value.none))).update S (Obj.mapSeq (·.pop))).get? b=some o:=fun b o nb e=>by
   rw[Heap.get?_update_other _ _ (Ne.symm nb),Heap.get?_update_other _ _ (Ne.symm nb)]
   exact e
  have out:S∉[s.heap.objs.size,a]:=by
   simp only[List.mem_cons,List.not_mem_nil,or_false,not_or]
   exact⟨Nat.ne_of_lt lS,ne⟩
  refine wpAny_pure ⟨plainId_quiet PySem.F.plain_extend_loop _,codeAny_extend_loopS W.toS sl S out _ es.size 0 _ #[] _ rfl (Nat.zero_le _) (W.frame 0 _ _ ST fun b hb o e=>oth b o (fun z=>out (z▸hb)) e) S2 (ItemsOf.nil _) fun s' acc c mv S3 its=>?_⟩
  exact k s' acc c (by rw[ah9 agO its];exact ord_perm) (fun b ob nb e=>mv.heap b ob (by simp[nb,Nat.ne_of_lt (Heap.lt_size e)]) (oth b ob nb (Heap.get?_push_of_some _ e))) mv.gens mv.os S3
 ·have nT:s.heap.objs.size≠s.heap.objs.size+1:=Nat.ne_of_lt (Nat.lt_succ_self _)
  have HS:((s.heap.push ({cls:=.type "tuple",data:=.seq (ys.map fun (y:Nat)=>rawInt y).toArray}:Obj)).push (sit (.ref s.heap.objs.size) 0 a es.size ep)).get? a=some (aaK es ep t):=Heap.get?_push_of_some _ (Heap.get?_push_of_some _ hS)
  have LS:((s.heap.push ({cls:=.type "tuple",data:=.seq (ys.map fun (y:Nat)=>rawInt y).toArray}:Obj)).push (sit (.ref s.heap.objs.size) 0 a es.size ep)).get? S=some {cls:=.type "list",data:=.seq #[]}:=Heap.get?_push_of_some _ (Heap.get?_push_of_some _ hL)
  have W:=aiH (A:=A.in1) (ep:=ep) (I:=s.heap.objs.size+1) (T:=s.heap.objs.size) hh (Nat.ne_of_lt (Nat.lt_succ_of_lt la)) nT X hp
  have eI:((s.heap.push ({cls:=.type "tuple",data:=.seq (ys.map fun (y:Nat)=>rawInt y).toArray}:Obj)).push (sit (.ref s.heap.objs.size) 0 a es.size ep)).get? (s.heap.objs.size+1)=some (sit (.ref s.heap.objs.size) 0 a es.size ep):=by
   have:=Heap.get?_push_size (s.heap.push ({cls:=.type "tuple",data:=.seq (ys.map fun (y:Nat)=>rawInt y).toArray}:Obj)) (o:=sit (.ref s.heap.objs.size) 0 a es.size ep) rfl
   rw[Heap.size_push] at this
   exact this
  have ST:((s.heap.push ({cls:=.type "tuple",data:=.seq (ys.map fun (y:Nat)=>rawInt y).toArray}:Obj)).push (sit (.ref s.heap.objs.size) 0 a es.size ep)).get? (s.heap.objs.size+1)=some (sit (.ref s.heap.objs.size) 0 a es.size ep)/\((s.heap.push ({cls:=.type "tuple",data:=.seq (ys.map fun (y:Nat)=>rawInt y).toArray}:Obj)).push (sit (.ref s.heap.objs.size) 0 a es.size ep)).get? a=some (aaK es ep t)/\((s.heap.push ({cls:=.type "tuple",data:=.seq (ys.map fun (y:Nat)=>rawInt y).toArray}:Obj)).push (sit (.ref s.heap.objs.size) 0 a es.size ep)).get? s.heap.objs.size=some {cls:=.type "tuple",data:=.seq (ys.map fun (y:Nat)=>rawInt y).toArray}:=⟨eI,HS,Heap.get?_push_of_some _ (Heap.get?_push_size _ rfl)⟩
  refine wpAny_bind (wpAny_holding (ah0 ⟨_,HS,rfl⟩ ?_))
  rw[if_pos (by decide)]
  refine wpAny_bind (wpAny_rule (wpAny_bind (show wpAny _ _ (updateSeq S (fun l=>l.push Value.none) >>=fun _=>updateSeq S fun l=>l.pop) _ _ _ from wpAny_bind (wpAny_updateSeq LS rfl ?_))))
  have S1:=Heap.get?_update_self (Obj.mapSeq (·.push Value.none)) LS rfl
  refine wpAny_updateSeq (hz:=by seq_fits) S1 rfl ?_
  have S2:=Heap.get?_update_self (Obj.mapSeq (·.pop)) S1 rfl
  have oth:∀b o,b≠S->((s.heap.push ({cls:=.type "tuple",data:=.seq (ys.map fun (y:Nat)=>rawInt y).toArray}:Obj)).push (sit (.ref s.heap.objs.size) 0 a es.size ep)).get? b=some o->((((s.heap.push ({cls:=.type "tuple",data:=.seq (ys.map fun (y:Nat)=>rawInt y).toArray}:Obj)).push (sit (.ref s.heap.objs.size) 0 a es.size ep)).update S (Obj.mapSeq (·.push Value.none))).update S (Obj.mapSeq (·.pop))).get? b=some o:=fun b o nb e=>by
   rw[Heap.get?_update_other _ _ (Ne.symm nb),Heap.get?_update_other _ _ (Ne.symm nb)]
   exact e
  have out:S∉[s.heap.objs.size+1,a,s.heap.objs.size]:=by
   simp only[List.mem_cons,List.not_mem_nil,or_false,not_or]
   exact⟨Nat.ne_of_lt (Nat.lt_succ_of_lt lS),ne,Nat.ne_of_lt lS⟩
  refine wpAny_pure ⟨plainId_quiet PySem.F.plain_extend_loop _,codeAny_extend_loopS W.toS sl S out _ es.size 0 _ #[] _ rfl (Nat.zero_le _) (W.frame 0 _ _ ST fun b hb o e=>oth b o (fun z=>out (z▸hb)) e) S2 (ItemsOf.nil _) fun s' acc c mv S3 its=>?_⟩
  have el:acc.toList=ys.map fun y=>((es.toList.map (·.2))[y]?).getD .none:=by
   refine ah9 (by rw[List.length_map,hp.length_eq,List.length_range]) ⟨its.1,fun i v hv=>?_⟩
   obtain⟨y,h1,h2⟩:=its.2 i v hv
   rw[List.getElem?_map,h1]
   show some (((es.toList.map (·.2))[y]?).getD .none)=_
   rw[h2]
   rfl
  have er:(List.range es.size).map (fun y=>((es.toList.map (·.2))[y]?).getD Value.none)=es.toList.map (·.2):=by
   refine List.ext_getElem? fun i=>?_
   rw[List.getElem?_map]
   by_cases c:i<es.size
   ·rw[List.getElem?_range c]
    show some (((es.toList.map (·.2))[i]?).getD .none)=(es.toList.map (·.2))[i]?
    rw[List.getElem?_eq_getElem (by rw[List.length_map,Array.length_toList];exact c)]
    rfl
   ·rw[List.getElem?_eq_none (by rw[List.length_range];omega),List.getElem?_eq_none (by rw[List.length_map,Array.length_toList];omega)]
    rfl
  refine k s' acc c (by rw[el];exact (hp.map _).trans (List.Perm.of_eq er)) (fun b ob nb e=>mv.heap b ob ?_ (oth b ob nb (Heap.get?_push_of_some _ (Heap.get?_push_of_some _ e)))) mv.gens mv.os S3
  simp only[List.mem_cons,List.not_mem_nil,or_false,not_or]
  exact⟨nb,Nat.ne_of_lt (Nat.lt_succ_of_lt (Heap.lt_size e))⟩
theorem ahT{Q:List Value->Shared->Prop}(hh:A.handled=none)(hS:s.heap.get? a=some (aaK es ep t))(X:SetE prog w es t)
  (k:∀(s':Shared) (vs:List Value),vs.Perm (es.toList.map (·.2))->(∀b o,s.heap.get? b=some o->s'.heap.get? b=some o)->s.heap.objs.size<s'.heap.objs.size->s'.gens=s.gens->s'.os=s.os->Q vs s'):wpAny (model prog w) A (collect (.ref a)) Q E s:=by
 let nl:Obj:={cls:=.type "list",data:=.seq ([]:List Value).toArray}
 have S1:(s.heap.push nl).get? s.heap.objs.size=some nl:=Heap.get?_push_size _ rfl
 unfold collect
 refine wpAny_bind (wpAny_runValue (codeAny_builtin F.entry_proto_collect ?_))
 rw[Around.under_plainId F.plain_proto_collect _]
 refine wpAny_bind (wpAny_newObj_type (wpAny_pure ⟨plainId_quiet F.plain_list_iadd _,codeAny_builtin F.entry_list_iadd ?_⟩))
 rw[Around.under_plainId F.plain_list_iadd _]
 have key:=aiU (A:=A) (s:={s with heap:=s.heap.push nl}) (S:=s.heap.objs.size) (R:=fun q s'=>∃acc c,q=.ok (.ret (.ref s.heap.objs.size))/\acc.toList.Perm (es.toList.map (·.2))/\(∀b o,s.heap.get? b=some o->s'.heap.get? b=some o)/\s'.gens=s.gens/\s'.os=s.os/\s'.heap.get? s.heap.objs.size=some {cls:=.type "list",data:=.seq acc c})
  hh (Heap.get?_push_of_some _ hS) X (Nat.ne_of_gt (Heap.lt_size hS)) S1 fun s' acc c p kp g o e=>⟨acc,c,rfl,p,fun b ob q=>kp b ob (Nat.ne_of_lt (Heap.lt_size q)) (Heap.get?_push_of_some _ q),g,o,e⟩
 have fin:∀s' acc c,acc.toList.Perm (es.toList.map (·.2))->(∀b o,s.heap.get? b=some o->s'.heap.get? b=some o)->s'.gens=s.gens->s'.os=s.os->s'.heap.get? s.heap.objs.size=some {cls:=.type "list",data:=.seq acc c}->
   wpAny (model prog w) A (do let o ←load s.heap.objs.size;match o.data with | .seq xs _=>pure xs.toList | _=>unsupported "internal:collect") Q E s':=fun s' acc c p kp g o e=>wpAny_bind (wpAny_load e (wpAny_pure (k s' acc.toList p kp (Heap.lt_size e) g o)))
 refine wpAny_mono key (fun f s' x=>?_) fun e s' x=>?_
 ·cases f with
  |done f=>
   obtain⟨acc,c,e,p,kp,g,o,q⟩:=x
   cases e
   exact fin s' acc c p kp g o q
  |again c1=>
   refine⟨x.1,codeAny_mono x.2 fun r s2 y=>?_⟩
   obtain⟨acc,c,rfl,p,kp,g,o,q⟩:=y
   exact fin s2 acc c p kp g o q
 ·obtain⟨_,_,e',_⟩:=x
  cases e'
theorem aiQ{Q:Value->Shared->Prop}(hh:A.handled=none)(hS:s.heap.get? a=some (aaK es ep t))(X:SetE prog w es t)(h64:es.size<64)
  (k:∀(s':Shared) (D:Addr) (vs:List Value) (ns:List Int) (c:Nat),s.heap.objs.size<=D->s'.heap.get? D=some {cls:=.type "list",data:=.seq vs.toArray c}->IntsAre vs ns->ns.Pairwise (·<·)->(∀x,x∈ns↔x∈aa5 es)->(∀b o,s.heap.get? b=some o->s'.heap.get? b=some o)->s'.gens=s.gens->s'.os=s.os->Q (.ref D) s'):
  wpAny (model prog w) A (call (.builtin "sorted") [.ref a]) Q E s:=by
 refine Calls.call_function_entry kind_sorted plain_sorted entry_sorted (args_sorted1 _) ?_
 unfold Builtin.«sorted»
 refine wpAny_bind (m:=checkCount "sorted" 1 1 _) (wpAny_pure (wpAny_bind (ahT (A:=A.in1) hh hS X fun s1 vs hp k1 sz1 g1 o1=>?_)))
 have hl:vs.length=es.size:=by rw[hp.length_eq,List.length_map,Array.length_toList]
 refine wpAny_bind (wpAny_newList ?_ (by rw[hl,sizeLine_eq];omega))
 have hin:IntsAre vs (vs.map zOf):=by
  have all:∀v∈vs,∃t,v=.int (zOf v) t:=fun v hv=>by
   obtain⟨e,he,rfl⟩:=List.mem_map.mp (hp.mem_iff.mp hv)
   exact ak7 X.el he
  clear hp hl
  induction vs with
  |nil=>exact .nil
  |cons v r ih=>
   obtain⟨t,e⟩:=all v (by simp)
   rw[List.map_cons]
   rw[e]
   exact .cons _ _ (ih fun u hu=>all u (List.mem_cons_of_mem _ hu))
 have zp:(vs.map zOf).Perm (aa5 es):=by
  have:=hp.map zOf
  rw[List.map_map] at this
  exact this
 have hoL:(s1.heap.push (seqObj "list" vs.toArray 0)).get? s1.heap.objs.size=some (seqObj "list" vs.toArray 0):=Heap.get?_push_size _ rfl
 refine wpAny_bind (wpAny_holding (wpAny_call_entry slot_list_sort ⟨_,hoL,rfl⟩ entry_list_sort (list_sort_tree hoL hin (by omega) fun out ns' a1 a2 a3=>⟨_,rfl,?_⟩) (args_list_sort _)))
 obtain⟨e,he⟩:=sortedHeap_at (out:=out) hoL
 refine wpAny_pure ⟨_,rfl,k _ s1.heap.objs.size out.toList ns' e (Nat.le_of_lt sz1) (by rw[Array.toArray_toList];exact he) a1 ?_ (fun x=>by rw[a2.mem_iff,zp.mem_iff]) (fun b ob q=>?_) g1 o1⟩
 ·have nd:ns'.Nodup:=a2.nodup_iff.mpr (zp.nodup_iff.mpr X.nd)
  exact (List.pairwise_and_iff.mpr ⟨a3,nd⟩).imp fun ⟨h1,h2⟩=>by omega
 ·have q1:=k1 b ob q
  have lb:=Heap.lt_size q1
  rw[sortedHeap_old (Nat.ne_of_lt lb) (by rw[size_push'];exact Nat.lt_succ_of_lt lb)]
  exact Heap.get?_push_of_some _ q1
end
def stO(P:Program)(w:World)(q:Addr)(ns:List Int):HO:=.ext fun h=>∃es ep t,h.get? q=some (aaK es ep t)/\SetE P w es t/\∀x,x∈aa5 es↔x∈ns
theorem Inv.other{X:Cx}{pins:List (Addr×Obj)}{σ:St}{H:Hp}{s s':Shared}(I:Inv X pins σ H s)(e1:s'.heap=s.heap)(e2:s'.gens=s.gens)(e3:s'.os=s.os):Inv X pins σ H s':=by
 obtain⟨h,g,d,t,o⟩:=s
 obtain⟨h',g',d',t',o'⟩:=s'
 cases e1
 cases e2
 cases e3
 exact⟨I.ok,I.os,I.bare,I.base,I.loc,I.cell,I.free,I.freeC,I.pin,I.hok,I.len⟩
theorem ahM:∀{ns:List Int} {us:List Value},Vals (ns.map V.int) us->IntsAre us ns
 |[],_,r=>by cases r;exact .nil
 |n::ns,_,.cons h r=>by
  obtain⟨t,rfl⟩:=h
  exact .cons n t (ahM r)
section
variable{X:Cx}
theorem cSet(hc:X.calm=true:=by rfl):Cl1 X (.type "set") (fun xs H Q=>∃(p:Addr) (ns:List Int),xs=[.ref p]/\SqL X.K H p (ns.map V.int)/\ns.length+1<4096/\∀q,H q=none->Q (.ref q) (upd H q (stO X.prog X.w q ns))):=by
 refine⟨fun pins s σ H xs us Q I r h=>?_⟩
 obtain⟨p,ns,rfl,hS,hl,k⟩:=h
 obtain⟨u,rfl,ru⟩:=adQ r
 cases ru
 obtain⟨its,rv,pl,hlen⟩:=I.list hS
 have hi:=ahM rv
 refine akA (I.ok.hd hc) pl.isList (by simpa using hi) (by have:=IntsAre.length hi;show its.toArray.size+1<4096;rw[List.size_toArray];omega) fun h' tk es ep t e SE m kp=>?_
 refine⟨.ref s.heap.objs.size,_,I.laid (a:=s.heap.objs.size) (o:=stO X.prog X.w s.heap.objs.size ns) kp (Nat.le_refl _) ⟨⟨es,ep,t,e,SE,m⟩,⟨_,e⟩,fun h1 h2 ⟨es,ep,t,e,SE,m⟩ kk=>⟨es,ep,t,kk _ e,SE,m⟩⟩,rfl,k _ (I.hok.fresh (Nat.le_refl _))⟩
end
section
variable{X:Cx}
end
section
variable{js:List Nat}{σ:St}{tt:TT}{te:TE}{Q:VK}{H1:Hp}
end
end L2
namespace KM
open PySem PySem.Spec PyProof.Rows L2
inductive Mk where
 |num (m:Int) | lst (b:Int) | nea (d:Int) | wrk | wkd (m:Int) | nth (w m:Int) | one (w:Int) | nil
 deriving DecidableEq
def aj5(ds:List Int):Int:=(ds.map fun d=>1*2^d.toNat).sum
def nw(d l f:Int):Int:=if (f+d-1)%7=6 then (if 1<d then d-1 else 3) else if (f+d-1)%7=0 then (if d<l then d+1 else l-2) else d
def wk(f:Int)(n:Nat):Bool:=decide (1<=(f+(1+(n:Int))-1)%7)&&decide ((f+(1+(n:Int))-1)%7<=5)
theorem rng{l:Int}(hl:28<=l/\l<=31):(-(2^62)<=(1:Int)/\(1:Int)<2^62/\ -(2^62)<=l+1/\l+1<2^62)/\(l+1-1).toNat=l.toNat/\(l+1-1).toNat<=sizeLine:=by
 obtain⟨h0,h1⟩:=hl
 refine⟨⟨by decide,by decide,by omega,by omega⟩,by omega,?_⟩
 rw[sizeLine_eq]
 omega
def fldN(w m:Int):List (Str×V):=apF "many" (.int m) (apF "weekday" (.int w) [])
def Mk.ok:Mk->Prop
 |.num m=>0<=m
 |.lst b=>0<=b/\b<=30
 |.nea d=>1<=d/\d<=31
 |.wrk=>True
 |.wkd m=>0<=m/\m<=127
 |.nth w m=>(0<=w/\w<=6)/\1<=m/\m<=5
 |.one w=>0<=w/\w<=6
 |.nil=>True
def Mk.wk:Mk->Bool
 |.wkd _ | .nth _ _ | .one _=>true
 |_=>false
def Mk.tup:Mk->List V
 |.num m=>[.str (Tx [112,108,97,105,110]),.int m,.int 0]
 |.wkd m=>[.str (Tx [112,108,97,105,110]),.int m,.int 0]
 |.lst b=>[.str (Tx [108,97,115,116]),.int b,.int 0]
 |.nea d=>[.str (Tx [110,101,97,114]),.int d,.int 0]
 |.wrk=>[.str (Tx [119,111,114,107]),.int 0,.int 0]
 |.nth w m=>[.str (Tx [110,116,104]),.int w,.int m]
 |.one w=>[.str (Tx [108,97,115,116,111,110,101]),.int w,.int 0]
 |.nil=>[]
def Mk.sp:Mk->Bool
 |.nil=>false
 |_=>true
structure Cs where
 (nu la ne lw we nt lo ma:Addr)
def MkAt(c:Cs)(H:Hp)(x:Addr):Mk->Prop
 |.num m=>∃dx,H x=some (.ins c.nu dx [("mask",.int m)])
 |.lst b=>∃dx,H x=some (.ins c.la dx [("back",.int b)])
 |.nea d=>∃dx,H x=some (.ins c.ne dx [("day",.int d)])
 |.wrk=>∃dx,H x=some (.ins c.lw dx [])
 |.wkd m=>∃dx,H x=some (.ins c.we dx [("mask",.int m)])
 |.nth w m=>∃dx,H x=some (.ins c.nt dx (fldN w m))
 |.one w=>∃dx,H x=some (.ins c.lo dx [("weekday",.int w)])
 |.nil=>∃dx,H x=some (.ins c.ma dx [])
theorem MkAt.keep{c:Cs}{H H':Hp}(s:Keep H H'){x:Addr}{k:Mk}(h:MkAt c H x k):MkAt c H' x k:=by
 cases k<;>(obtain⟨dx,h⟩:=h;exact⟨dx,s.ins h⟩)
def PrAt(H:Hp)(p:Addr)(k:Mk):Prop:=k.ok/\k.sp=true/\∃u,H p=some (.tup [.ref u,.bl k.wk])/\H u=some (.tup k.tup)
theorem PrAt.keep{H H':Hp}(s:Keep H H'){p:Addr}{k:Mk}(h:PrAt H p k):PrAt H' p k:=by
 obtain⟨o,e,u,h1,h2⟩:=h
 exact⟨o,e,u,s.tup h1,s.tup h2⟩
abbrev Ft(R:Addr->Mk->Prop):List Addr->List Mk->Prop:=Paired R
theorem Ft.keepM{c:Cs}{H H':Hp}(s:Keep H H'){ps:List Addr}{ks:List Mk}(h:Ft (MkAt c H) ps ks):Ft (MkAt c H') ps ks:=Paired.imp' (fun _ _ z=>z.keep s) h
theorem Ft.all{H:Hp}:∀{ps:List Addr} {ks:List Mk},Ft (PrAt H) ps ks->∀k∈ks,k.ok
 |_,_,.nil,k,hk=>nomatch hk
 |_,_,.cons r t,k,hk=>by
  rcases List.mem_cons.mp hk with rfl | hk
  ·exact r.1
  ·exact Ft.all t k hk
end KM
namespace L2
open PySem
theorem afI{us:List Value}(h:us.length=1):∃a,us=[a]:=by
 cases us with
 |nil=>cases h
 |cons a r=>cases r with
  |nil=>exact⟨a,rfl⟩
  |cons b r=>cases h
theorem apB{us:List Value}{n:Nat}(h:us.length=n+1):∃a r,us=a::r/\r.length=n:=by
 cases us with
 |nil=>cases h
 |cons a r=>exact⟨a,r,rfl,Nat.succ.inj h⟩
theorem afD{us:List Value}(h:us.length=2):∃a b,us=[a,b]:=by
 obtain⟨a,r,rfl,h'⟩:=apB h
 obtain⟨b,rfl⟩:=afI h'
 exact⟨a,b,rfl⟩
theorem anU{us:List Value}(h:us.length=3):∃a b c,us=[a,b,c]:=by
 obtain⟨a,r,rfl,h'⟩:=apB h
 obtain⟨b,c,rfl⟩:=afD h'
 exact⟨a,b,c,rfl⟩
theorem len4{us:List Value}(h:us.length=4):∃a b c d,us=[a,b,c,d]:=by
 obtain⟨a,r,rfl,h'⟩:=apB h
 obtain⟨b,c,d,rfl⟩:=anU h'
 exact⟨a,b,c,d,rfl⟩
section
variable{X:Cx}{f:Addr}{k k':Nat}{ps:List Str}{sp:Sp}{y:Str}{e:Expr}{es:List Expr}{t:TA}{tv:TE}{p pos:Pos}
end
section
variable{X:Cx}
end
end L2
namespace KM
open PySem PySem.Spec PyProof.Rows L2
def ar1(t:List Nat):Option Mk:=
 if t=[76] then some (.lst 0) else if t=[76,87] then some .wrk
 else if t.take ([76,45]:List Nat).length=[76,45] then (ab9 1 30 (ap0 t (some 2) none)).map Mk.lst
 else if t.getLast? =some 87 then (ab9 1 31 (ap0 t none (some (-1)))).map Mk.nea else none
def wdN(t:List Nat):Option Int:=(ab9 0 7 t).map fun n=>if n=7 then 0 else n
def as3:Option Int->Option Int->Option Mk
 |some w,some m=>some (.nth w m)
 |_,_=>none
def rdWk(t:List Nat):Option Mk:=
 if t.getLast? =some 76 then (wdN (ap0 t none (some (-1)))).map Mk.one
 else match spl 35 t with
  |[a,b]=>as3 (wdN a) (ab9 1 5 b)
  |_=>none
def rdM(wk:Bool)(t:List Nat):Option Mk:=if wk=true then rdWk t else ar1 t
def wk7(m:Int):Int:=Builtin.bitAnd (Builtin.bitOr m (m / 2^(7:Int).toNat)) 127
def Cl(t:List Nat):Prop:=(44∉t/\32∉t)/\t≠[]/\t.length<=8
instance (t:List Nat):Decidable (Cl t):=by unfold Cl;exact inferInstance
def alI(lo hi:Int)(t:List Nat)(ns:List Int):Prop:=aaV lo hi t=some (aaI ns)/\Cl t/\(∀n∈ns,lo<=n/\n<=hi)/\ns≠[]/\ns.length<=64
theorem ae4{c:Nat}{a b:List Nat}{d:Nat}(h1:c∉a)(h2:c∉b)(h3:c≠d):c∉a++d::b:=by
 simp only[List.mem_append,List.mem_cons,not_or]
 exact⟨h1,h3,h2⟩
theorem aqE{a b:List Nat}{d:Nat}(ha:(44∉a/\32∉a)/\a≠[]/\a.length<=5)(hb:(44∉b/\32∉b)/\b.length<=2)(h1:44≠d)(h2:32≠d):Cl (a++d::b):=by
 refine⟨⟨ae4 ha.1.1 hb.1.1 h1,ae4 ha.1.2 hb.1.2 h2⟩,by simp,?_⟩
 have:=ha.2.2
 have:=hb.2
 rw[List.length_append,List.length_cons]
 omega
theorem aiS{n:Nat}(h:n<100):(44∉num n/\32∉num n)/\num n≠[]/\(num n).length<=2:=⟨⟨aa0 h (by decide),aa0 h (by decide)⟩,apU n,(aiK n h).2.2.2⟩
theorem alX{a b s lo hi:Int}(h0:0<=a)(h1:b<=63)(hab:a<=b)(hs:0<s)(hl:lo<=a)(hb:b<=hi):(∀n∈adZ a b s,lo<=n/\n<=hi)/\adZ a b s≠[]/\(adZ a b s).length<=64:=by
 refine⟨fun n hn=>?_,fun e=>?_,?_⟩
 ·have:=(ad6 hs).mp hn
  omega
 ·have:a∈adZ a b s:=(ad6 hs).mpr ⟨Int.le_refl _,hab,by rw[Int.sub_self];rfl⟩
  rw[e] at this
  cases this
 ·rw[agC,List.length_map,List.length_range,ag2 hs,if_pos hab]
  have:=Int.ediv_le_self (a:=b-a) s (by omega)
  omega
theorem ajD(a:Int):adZ a a 1=[a]:=by
 rw[agC,ag2 (by decide),if_pos (Int.le_refl a),Int.sub_self]
 show [a+((0:Nat):Int)*1]=[a]
 simp
theorem i1{lo hi a:Int}(h0:0<=lo)(h1:lo<=a)(h2:a<=hi)(h3:hi<=63):alI lo hi (num a.toNat) [a]:=by
 have ha:a.toNat<100:=by omega
 have e:=am4 (lo:=lo) (hi:=hi) ha (by omega) (by omega)
 rw[Int.toNat_of_nonneg (by omega)] at e
 have c:=aiS ha
 have r:=alX (a:=a) (b:=a) (s:=1) (lo:=lo) (hi:=hi) (by omega) (by omega) (by omega) (by decide) h1 h2
 have e2:=ahX (aa0 ha (by decide)) e
 unfold acS at e2
 rw[ajD] at e2 r
 exact⟨e2,⟨c.1,c.2.1,by have:=c.2.2;omega⟩,r⟩
theorem i2{lo hi a b:Int}(h0:0<=lo)(h1:lo<=a)(h2:a<=b)(h4:b<=hi)(h3:hi<=63):alI lo hi (num a.toNat++45::num b.toNat) (adZ a b 1):=by
 have ha:a.toNat<100:=by omega
 have hb:b.toNat<100:=by omega
 have e:=anL (lo:=lo) (hi:=hi) ha hb (by omega) (by omega) (by omega)
 rw[Int.toNat_of_nonneg (by omega),Int.toNat_of_nonneg (by omega)] at e
 have ca:=aiS ha
 have cb:=aiS hb
 exact⟨ahX (ae4 (aa0 ha (by decide)) (aa0 hb (by decide)) (by decide)) e,aqE ⟨ca.1,ca.2.1,by have:=ca.2.2;omega⟩ ⟨cb.1,cb.2.2⟩ (by decide) (by decide),alX (by omega) (by omega) h2 (by decide) h1 h4⟩
theorem amM:∀{zs:List Int},zs.Pairwise (·<·)->(∀z∈zs,0<=z)->∀i,0<=aj5 zs/\tb (aj5 zs) i=zs.any fun z=>decide (z.toNat=i):=by
 intro zs hp hn i
 have key:∀(n:Nat) (ys:List Int),ys.length=n->ys.Pairwise (·<·)->(∀z∈ys,0<=z)->aj5 ys=aaI ys:=by
  intro n
  induction n with
  |zero=>intro ys h _ _;rw[List.length_eq_zero_iff.mp h];rfl
  |succ n ih=>
   intro ys hl hp hn
   rcases List.eq_nil_or_concat ys with rfl | ⟨r,z,rfl⟩
   ·cases hl
   rw[List.concat_eq_append] at hl hp hn ⊢
   have hpa:=List.pairwise_append.mp hp
   have er:=ih r (by rw[List.length_append,List.length_singleton] at hl;omega) hpa.1 fun x hx=>hn x (List.mem_append_left _ hx)
   have hz:=hn z (List.mem_append_right _ (List.mem_singleton.mpr rfl))
   have hb:tb (aaI r) z.toNat=false:=by
    rw[aaQ,List.any_eq_false]
    intro x hx
    have h1:=hpa.2.2 x hx z (List.mem_singleton.mpr rfl)
    have h2:=hn x (List.mem_append_left _ hx)
    have:¬x.toNat=z.toNat:=by omega
    simpa using this
   have e1:aj5 (r++[z])=aj5 r+1*2^z.toNat:=by unfold aj5;rw[List.map_append,List.sum_append];show _+(1*2^z.toNat+0)=_;omega
   have hnn:=aaM r
   have hp2:=Int.le_of_lt (abI z.toNat)
   rw[e1,er,aeY]
   refine aaS (by omega) (aeU hnn (by omega)) fun j=>?_
   have e3:(1*2^z.toNat:Int)=2^z.toNat:=by omega
   have hz0:Builtin.bitAnd (aaI r) (2^z.toNat)=0:=by
    refine aaS (adG hnn hp2) (Int.le_refl 0) fun k=>?_
    rw[abQ hnn hp2,adI,aaN]
    by_cases c:z.toNat=k
    ·subst c;rw[hb];rfl
    ·simp[c]
   have ea:aaI r+2^z.toNat=Builtin.bitOr (aaI r) (2^z.toNat):=by rw[bitOr_and,hz0];omega
   rw[e3,ea]
 rw[key _ zs rfl hp hn]
 exact⟨aaM _,aaQ _ _⟩
theorem ab1{m:Int}(h:0<=m)(i:Nat):0<=wk7 m/\tb (wk7 m) i=((tb m i||tb m (7+i))&&decide (i<7)):=by
 have h1:(0:Int)<=m / 2^(7:Int).toNat:=Int.ediv_nonneg h (by decide)
 unfold wk7
 refine⟨adG (aeU h h1) (by decide),?_⟩
 rw[abQ (aeU h h1) (by decide),ahA h h1,apY h]
 have e:tb 127 i=decide (i<7):=an4 7 i
 rw[e]
 rfl
theorem aqZ{ms:List Int}(h:∀m∈ms,0<=m):wk7 (orM ms)=orM (ms.map wk7):=by
 have h':∀m∈ms.map wk7,0<=m:=fun m hm=>by
  obtain⟨z,hz,rfl⟩:=List.mem_map.mp hm
  exact (ab1 (h z hz) 0).1
 refine aaS (ab1 (ad9 h) 0).1 (ad9 h') fun i=>?_
 rw[(ab1 (ad9 h) i).2,aeK h,aeK h,aeK h',List.any_map,Bool.eq_iff_iff]
 simp only[Bool.and_eq_true,Bool.or_eq_true,List.any_eq_true,decide_eq_true_eq,Function.comp]
 constructor
 ·rintro⟨⟨m,hm,e⟩ | ⟨m,hm,e⟩,hi⟩
  ·exact⟨m,hm,by rw[(ab1 (h m hm) i).2,e,decide_eq_true hi];rfl⟩
  ·exact⟨m,hm,by rw[(ab1 (h m hm) i).2,e,decide_eq_true hi,Bool.or_true];rfl⟩
 ·rintro⟨m,hm,e⟩
  rw[(ab1 (h m hm) i).2,Bool.and_eq_true,Bool.or_eq_true,decide_eq_true_eq] at e
  rcases e with ⟨e | e,hi⟩
  ·exact⟨.inl ⟨m,hm,e⟩,hi⟩
  ·exact⟨.inr ⟨m,hm,e⟩,hi⟩
def SpT(b:Bool)(t:List Nat):Mk->Prop
 |.num m=>b=false/\aaV 1 31 t=some m/\0<m
 |.wkd m=>b=true/\∃M,aaV 0 7 t=some M/\(0<M/\M<=255)/\m=wk7 M
 |.nil=>False
 |k=>aaV (if b=true then 0 else 1) (if b=true then 7 else 31) t=none/\rdM b t=some k
theorem akZ:SpT false [76] (.lst 0)/\Cl [76]:=by
 refine⟨⟨?_,?_⟩,by decide⟩<;>decide +kernel
theorem alS:SpT false [76,87] .wrk/\Cl [76,87]:=by
 refine⟨⟨?_,?_⟩,by decide⟩<;>decide +kernel
theorem aq2:∀n:Nat,n<31->1<=n->(aaV 1 31 ([76,45]++num n)=none/\rdM false ([76,45]++num n)=some (.lst n))/\Cl ([76,45]++num n):=by decide +kernel
theorem apV:∀n:Nat,n<32->1<=n->(aaV 1 31 (num n++[87])=none/\rdM false (num n++[87])=some (.nea n))/\Cl (num n++[87]):=by decide +kernel
theorem asK:∀n:Nat,n<8->(aaV 0 7 (num n++[76])=none/\rdM true (num n++[76])=some (.one ((n:Int)%7)))/\Cl (num n++[76]):=by decide +kernel
theorem ar4:∀n:Nat,n<8->∀m:Nat,m<6->1<=m->(aaV 0 7 (num n++[35]++num m)=none/\rdM true (num n++[35]++num m)=some (.nth ((n:Int)%7) m))/\Cl (num n++[35]++num m):=by decide +kernel
theorem afV{ns:List Int}(h:ns≠[])(hn:∀n∈ns,0<=n):0<aaI ns:=by
 have h0:=aaM ns
 rcases Int.lt_or_eq_of_le h0 with h1 | h1
 ·exact h1
 ·cases ns with
  |nil=>exact absurd rfl h
  |cons n r=>
   have z:=aaQ (n::r) n.toNat
   rw[←h1,aaN,List.any_cons] at z
   simp at z
theorem orAll_lt{ns:List Int}{n:Nat}(hn:∀z∈ns,0<=z/\z<(n:Int)):aaI ns<2^n:=by
 have e:aaI ns=mk_ (tb (aaI ns)) n:=by
  refine aaS (aaM _) (acY _ _) fun i=>?_
  rw[adP]
  by_cases c:i<n
  ·rw[decide_eq_true c,Bool.true_and]
  ·rw[decide_eq_false c,Bool.false_and,aaQ,List.any_eq_false]
   intro z hz
   have:=hn z hz
   have:¬z.toNat=i:=by omega
   simpa using this
 rw[e]
 exact ah1 _ _
end KM
namespace L2
open PySem PySem.Spec PyProof.Rows PySem.SeqAt
section
variable{X:Cx}
end
end L2
namespace KM
open PySem PySem.Spec PyProof.Rows L2
def TpAt(b:Bool)(H:Hp)(u:Addr)(k:Mk):Prop:=H u=some (.tup k.tup)/\k.sp=true/\k.wk=b/\k.ok
theorem TpAt.keep{b:Bool}{H H':Hp}(s:Keep H H'){u:Addr}{k:Mk}(h:TpAt b H u k):TpAt b H' u k:=⟨s.tup h.1,h.2⟩
def Mk.pl:Mk->Option Int
 |.num m=>some m
 |.wkd m=>some m
 |_=>none
def plK(ks:List Mk):List Int:=ks.filterMap Mk.pl
def otK(ks:List Mk):List Mk:=ks.filter fun k=>k.pl.isNone
def afZ(b:Bool)(M:Int):List Mk:=if M=0 then [] else if b=true then [.wkd M] else [.num M]
def aq6(b:Bool)(ks:List Mk):List Mk:=afZ b (orM (plK ks))++otK ks
abbrev Ws(b:Bool):List (List Nat)->List Mk->Prop:=Paired fun w k=>Cl w/\SpT b w k
def lo_(b:Bool):Int:=if b=true then 0 else 1
def hi_(b:Bool):Int:=if b=true then 7 else 31
theorem anY(k:Mk)(ks:List Mk):plK (k::ks)=(match k.pl with | some m=>m::plK ks | none=>plK ks)/\otK (k::ks)=(match k.pl with | some _=>otK ks | none=>k::otK ks):=by
 unfold plK otK
 rw[List.filterMap_cons,List.filter_cons]
 cases k.pl<;>exact⟨rfl,rfl⟩
theorem af9(c:Nat):∀(a b:List (List Nat)),a≠[]->b≠[]->abH c (a++b)=abH c a++c::abH c b
 |[],_,h,_=>absurd rfl h
 |[p],b,_,hb=>by
  cases b with
  |nil=>exact absurd rfl hb
  |cons q r=>rfl
 |p::q::r,b,_,hb=>by
  have ih:=af9 c (q::r) b (by simp) hb
  show p++c::abH c ((q::r)++b)=(p++c::abH c (q::r))++c::abH c b
  rw[ih]
  simp
def PrT(H:Hp)(ts:List Addr)(prs:List (Nat×Nat)):Prop:=Paired (fun (t:Addr) (pr:Nat×Nat)=>H t=some (.tup [.int pr.1,.int pr.2])) ts prs
theorem PrT.keep{H H':Hp}{ts:List Addr}{prs:List (Nat×Nat)}(h:PrT H ts prs)(k:Keep H H'):PrT H' ts prs:=Paired.mapP h fun _ _ z=>k.tup z
theorem Paired.at{α β:Type}{F:α->β->Prop}:∀{l:List α} {r:List β} {i:Nat} {a:α},Paired F l r->l[i]? =some a->∃b,r[i]? =some b/\F a b
 |_,_,_,_,.nil,e=>by simp at e
 |_,_,0,_,.cons h _,e=>by
  have:=Option.some.inj e
  subst this
  exact⟨_,rfl,h⟩
 |_,_,i+1,_,.cons _ t,e=>Paired.at (i:=i) t e
theorem agX{m:Int}(h:m<2^64):∀{prs:List (Nat×Nat)} {lo:Nat},adU m lo prs->∀x∈prs,lo<=x.1/\x.1<=x.2/\x.2<=63
 |[],_,_,x,hx=>nomatch hx
 |(s,e)::r,lo,hr,x,hx=>by
  have he:e<=63:=by
   have:=hr.2.2.2.1 e hr.2.2.1 (Nat.le_refl _)
   rcases Nat.lt_or_ge e 64 with y | y
   ·omega
   ·rw[abC h y] at this;cases this
  rcases List.mem_cons.mp hx with z | z
  ·subst z
   exact⟨hr.1,hr.2.2.1,he⟩
  ·have:=agX h hr.2.2.2.2.2 x z
   have h1:=hr.1
   have h2:=hr.2.2.1
   exact⟨by omega,this.2⟩
theorem af6{m:Int}:∀{prs prs':List (Nat×Nat)} {lo:Nat},adU m lo prs->adU m lo prs'->prs=prs'
 |[],[],_,_,_=>rfl
 |[],(s,e)::r,lo,h,h'=>by
  have h:∀j,lo<=j->tb m j=false:=h
  have:=h'.2.2.2.1 s (Nat.le_refl _) h'.2.2.1
  rw[h s h'.1] at this;cases this
 |(s,e)::r,[],lo,h,h'=>by
  have h':∀j,lo<=j->tb m j=false:=h'
  have:=h.2.2.2.1 s (Nat.le_refl _) h.2.2.1
  rw[h' s h.1] at this;cases this
 |(s,e)::r,(s',e')::r',lo,h,h'=>by
  obtain⟨a1,a2,a3,a4,a5,a6⟩:=h
  obtain⟨b1,b2,b3,b4,b5,b6⟩:=h'
  have es:s=s':=by
   rcases Nat.lt_trichotomy s s' with z | z | z
   ·have:=b2 s a1 z;rw[a4 s (Nat.le_refl _) a3] at this;cases this
   ·exact z
   ·have:=a2 s' b1 z;rw[b4 s' (Nat.le_refl _) b3] at this;cases this
  subst es
  have ee:e=e':=by
   rcases Nat.lt_trichotomy e e' with z | z | z
   ·have:=b4 (e+1) (by omega) (by omega);rw[a5] at this;cases this
   ·exact z
   ·have:=a4 (e'+1) (by omega) (by omega);rw[b5] at this;cases this
  subst ee
  rw[af6 a6 b6]
theorem alZ{m:Int}(h:m<2^64):∀(n s:Nat),64-s<=n->∃e,arY m s e
 |0,s,hn=>⟨s,Nat.le_refl _,fun j h1 h2=>absurd h1 (by omega),abC h (by omega)⟩
 |n+1,s,hn=>by
  cases c:tb m (s+1) with
  |false=>exact⟨s,Nat.le_refl _,fun j h1 h2=>absurd h1 (by omega),c⟩
  |true=>
   obtain⟨e,h1,h2,h3⟩:=alZ h n (s+1) (by omega)
   refine⟨e,by omega,fun j j1 j2=>?_,h3⟩
   by_cases q:j=s+1
   ·rw[q];exact c
   ·exact h2 j (by omega) j2
theorem agH{m:Int}(h:m<2^64):∀(n lo:Nat),66-lo<=n->∃prs,adU m lo prs
 |0,lo,hn=>⟨[],fun j hj=>abC h (by omega)⟩
 |n+1,lo,hn=>by
  by_cases c:∃j,lo<=j/\tb m j=true
  ·obtain⟨s,h1,h2,h3⟩:∃s,lo<=s/\tb m s=true/\∀j,lo<=j->j<s->tb m j=false:=by
    obtain⟨j,j1,j2⟩:=c
    induction j using Nat.strongRecOn with
    |_ j ih=>
     by_cases q:∃k,lo<=k/\k<j/\tb m k=true
     ·obtain⟨k,k1,k2,k3⟩:=q
      exact ih k k2 k1 k3
     ·refine⟨j,j1,j2,fun k k1 k2=>?_⟩
      cases e:tb m k
      ·rfl
      ·exact absurd ⟨k,k1,k2,e⟩ q
   obtain⟨e,e1,e2,e3⟩:=alZ h 64 s (by omega)
   obtain⟨r,hr⟩:=agH h n (e+2) (by omega)
   refine⟨(s,e)::r,h1,h3,e1,fun j j1 j2=>?_,e3,hr⟩
   by_cases q:j=s
   ·rw[q];exact h2
   ·exact e2 j (by omega) j2
  ·refine⟨[],fun j hj=>?_⟩
   cases e:tb m j
   ·rfl
   ·exact absurd ⟨j,hj,e⟩ c
theorem adB{m:Int}:∀{prs:List (Nat×Nat)} {lo:Nat},adU m lo prs->∀j,lo<=j->tb m j=prs.any fun x=>decide (x.1<=j)&&decide (j<=x.2)
 |[],_,h,j,hj=>h j hj
 |(s,e)::r,lo,⟨a1,a2,a3,a4,a5,a6⟩,j,hj=>by
  rw[List.any_cons]
  by_cases c1:j<s
  ·rw[a2 j hj c1,decide_eq_false (show ¬s<=j by omega)]
   have:(r.any fun x=>decide (x.1<=j)&&decide (j<=x.2))=false:=by
    rw[List.any_eq_false]
    intro x hx
    have:=runs_lo a6 x hx
    simp;omega
   rw[this];rfl
  ·by_cases c2:j<=e
   ·rw[a4 j (by omega) c2,decide_eq_true (show s<=j by omega),decide_eq_true c2];rfl
   ·rw[decide_eq_false c2,Bool.and_false,Bool.false_or]
    by_cases c3:j=e+1
    ·subst c3
     rw[a5]
     symm
     rw[List.any_eq_false]
     intro x hx
     have:=runs_lo a6 x hx
     simp;omega
    ·exact adB a6 j (by omega)
where runs_lo {m:Int}:∀{prs:List (Nat×Nat)} {lo:Nat},adU m lo prs->∀x∈prs,lo<=x.1
 |[],_,_,x,hx=>nomatch hx
 |(s,e)::r,lo,hr,x,hx=>by
  rcases List.mem_cons.mp hx with z | z
  ·subst z;exact hr.1
  ·have:=runs_lo hr.2.2.2.2.2 x z
   have h1:=hr.1
   have h2:=hr.2.2.1
   omega
def rt(x:Nat×Nat):List Nat:=if x.1=x.2 then num x.1 else num x.1++45::num x.2
abbrev rtx(prs:List (Nat×Nat)):List Nat:=abH 44 (prs.map rt)
noncomputable def rtm(m:Int):List Nat:=if h:m<2^64 then rtx (Classical.choose (agH h 66 0 (by omega))) else []
theorem amY{m:Int}(h:m<2^64){prs:List (Nat×Nat)}(hr:adU m 0 prs):rtm m=rtx prs:=by
 unfold rtm
 rw[dif_pos h,af6 (Classical.choose_spec (agH h 66 0 (by omega))) hr]
noncomputable def afJ:Mk->List Nat
 |.num m=>rtm m
 |.wkd m=>rtm m
 |.lst b=>if b=0 then [76] else [76,45]++num b.toNat
 |.nea d=>num d.toNat++[87]
 |.wrk=>[76,87]
 |.nth w m=>num w.toNat++[35]++num m.toNat
 |.one w=>num w.toNat++[76]
 |.nil=>[]
theorem al9{x:Int}(h0:0<=x){n:Nat}(h:∀i,tb x i=true->i<n):x<2^n:=by
 have e:mk_ (tb x) n=x:=aaS (acY _ _) h0 fun i=>by
  rw[adP]
  cases c:tb x i
  ·simp
  ·simp[h i c]
 rw[←e]
 exact ah1 _ _
theorem as9:(2:Int)^7=128:=by decide
theorem as2{m:Int}(h0:0<=m)(h1:m<=127):∀i,tb m i=true->i<7:=fun i hi=>by
 rcases Nat.lt_or_ge i 7 with z | z
 ·exact z
 ·rw[abC (n:=7) (by rw[as9];omega) z] at hi
  exact absurd hi Bool.false_ne_true
theorem asP{k:Nat}{x:Int}(h0:0<=x)(hk:k<=64)(h:∀i,tb x i=true->i<k):x<2^64:=al9 h0 fun i hi=>Nat.lt_of_lt_of_le (h i hi) hk
theorem arA{m:Int}(h0:0<=m)(h:∀i,tb m i=true->1<=i/\i<=31):m<2^64:=asP (k:=32) h0 (by decide) fun i hi=>by have:=h i hi;omega
theorem arL{m:Int}(h0:0<=m)(h1:m<=127):m<2^64:=asP (k:=7) h0 (by decide) (as2 h0 h1)
def plm(b:Bool)(x:Nat×Nat):Mk:=if b=true then .wkd (wk7 (acS x.1 x.2 1)) else .num (acS x.1 x.2 1)
theorem asR{lo hi:Int}{x:Nat×Nat}(h0:0<=lo)(h1:lo<=x.1)(h2:x.1<=x.2)(h3:(x.2:Int)<=hi)(h4:hi<=63):alI lo hi (rt x) (adZ x.1 x.2 1):=by
 unfold rt
 by_cases c:x.1=x.2
 ·rw[if_pos c,←c,ajD]
  exact i1 (a:=(x.1:Int)) h0 h1 (by omega) h4
 ·rw[if_neg c]
  exact i2 (a:=(x.1:Int)) (b:=(x.2:Int)) h0 h1 (by omega) h3 h4
theorem ap2{b:Bool}{x:Nat×Nat}(h1:lo_ b<=x.1)(h2:x.1<=x.2)(h3:(x.2:Int)<=hi_ b):Cl (rt x)/\SpT b (rt x) (plm b x):=by
 cases b with
 |true=>
  have t:=asR (lo:=0) (hi:=7) (x:=x) (by decide) h1 h2 h3 (by decide)
  have hin:=t.2.2.1
  have hlt:=orAll_lt (n:=8) (ns:=adZ x.1 x.2 1) (fun z hz=>by have:=hin z hz;omega)
  have e256:(2:Int)^8=256:=by decide
  exact⟨t.2.1,rfl,_,t.1,⟨afV t.2.2.2.1 (fun n hn=>(hin n hn).1),by omega⟩,rfl⟩
 |false=>
  have t:=asR (lo:=1) (hi:=31) (x:=x) (by decide) h1 h2 h3 (by decide)
  exact⟨t.2.1,rfl,t.1,afV t.2.2.2.1 (fun n hn=>by have:=(t.2.2.1 n hn).1;omega)⟩
theorem am9{b:Bool}{k:Mk}(hp:k.pl=none)(hs:k.sp=true)(hw:k.wk=b)(ho:k.ok):Cl (afJ k)/\SpT b (afJ k) k:=by
 cases k with
 |num m=>cases hp
 |wkd m=>cases hp
 |nil=>cases hs
 |wrk=>subst hw;exact⟨alS.2,alS.1⟩
 |lst n=>
  subst hw
  by_cases c:n=0
  ·subst c;exact⟨akZ.2,akZ.1⟩
  ·have z:=aq2 n.toNat (by have:=ho.2;omega) (by have:=ho.1;omega)
   rw[Int.toNat_of_nonneg ho.1] at z
   have e:afJ (.lst n)=[76,45]++num n.toNat:=by show (if n=0 then _ else _)=_;rw[if_neg c]
   rw[e]
   exact⟨z.2,z.1⟩
 |nea d=>
  subst hw
  have z:=apV d.toNat (by have:=ho.2;omega) (by have:=ho.1;omega)
  rw[Int.toNat_of_nonneg (by have:=ho.1;omega)] at z
  exact⟨z.2,z.1⟩
 |nth w m=>
  subst hw
  have h1:=ho.1.1
  have h2:=ho.1.2
  have h3:=ho.2.1
  have h4:=ho.2.2
  have z:=ar4 w.toNat (by omega) m.toNat (by omega) (by omega)
  rw[Int.toNat_of_nonneg h1,Int.toNat_of_nonneg (by omega),Int.emod_eq_of_lt h1 (by omega)] at z
  exact⟨z.2,z.1⟩
 |one w=>
  subst hw
  have h1:=ho.1
  have h2:=ho.2
  have z:=asK w.toNat (by omega)
  rw[Int.toNat_of_nonneg h1,Int.emod_eq_of_lt h1 (by omega)] at z
  exact⟨z.2,z.1⟩
theorem amH{b:Bool}:∀{ws:List (List Nat)} {ks:List Mk} {vs:List (List Nat)} {js:List Mk},Ws b ws ks->Ws b vs js->Ws b (ws++vs) (ks++js)
 |_,_,_,_,.nil,h=>h
 |_,_,_,_,.cons r t,h=>.cons r (amH t h)
theorem aiW{b:Bool}{α:Type}{f:α->List Nat}{g:α->Mk}:∀{l:List α},(∀x∈l,Cl (f x)/\SpT b (f x) (g x))->Ws b (l.map f) (l.map g)
 |[],_=>.nil
 |x::l,h=>.cons (h x (List.mem_cons_self ..)) (aiW fun y hy=>h y (List.mem_cons_of_mem _ hy))
theorem an3{c:Nat}{a b:List (List Nat)}(ha:a≠[]):abH c (abH c a::b)=abH c (a++b):=by
 cases b with
 |nil=>rw[List.append_nil];rfl
 |cons x r=>rw[af9 c a (x::r) ha (List.cons_ne_nil _ _)];rfl
theorem aqK{prs:List (Nat×Nat)}(h:adU 0 0 prs):prs=[]:=by
 cases prs with
 |nil=>rfl
 |cons x r=>
  obtain⟨s,e⟩:=x
  have:=h.2.2.2.1 s (Nat.le_refl _) h.2.2.1
  rw[aaN] at this
  cases this
theorem aqW{b:Bool}{x:Nat×Nat}:(plm b x).pl=some (if b=true then wk7 (acS x.1 x.2 1) else acS x.1 x.2 1):=by
 unfold plm
 cases b<;>rfl
theorem anW{os:List Mk}(h:∀k∈os,k.pl=none):otK os=os/\plK os=[]:=by
 constructor
 ·exact List.filter_eq_self.mpr fun k hk=>by rw[h k hk];rfl
 ·exact List.filterMap_eq_nil_iff.mpr fun k hk=>h k hk
theorem alF(a b:List Mk):plK (a++b)=plK a++plK b/\otK (a++b)=otK a++otK b:=⟨List.filterMap_append,List.filter_append ..⟩
theorem aiM{b:Bool}:∀(prs:List (Nat×Nat)),plK (prs.map (plm b))=prs.map (fun x=>if b=true then wk7 (acS x.1 x.2 1) else acS x.1 x.2 1)/\otK (prs.map (plm b))=[]
 |[]=>⟨rfl,rfl⟩
 |x::r=>by
  have ih:=aiM (b:=b) r
  have c:=anY (plm b x) (r.map (plm b))
  rw[aqW] at c
  rw[List.map_cons,c.1,c.2,ih.1,ih.2]
  exact⟨rfl,rfl⟩
theorem ajW{M:Int}(h0:0<=M){prs:List (Nat×Nat)}(hr:adU M 0 prs):orM (prs.map fun x=>acS x.1 x.2 1)=M:=by
 have hn:∀m∈prs.map (fun x:Nat×Nat=>acS x.1 x.2 1),0<=m:=fun m hm=>by
  obtain⟨x,_,rfl⟩:=List.mem_map.mp hm
  exact aaM _
 refine aaS (ad9 hn) h0 fun i=>?_
 rw[aeK hn,adB hr i (Nat.zero_le _),List.any_map]
 congr 1
 funext x
 show tb (aaI _) i=_
 rw[aaQ,Bool.eq_iff_iff,List.any_eq_true]
 simp only[Bool.and_eq_true,decide_eq_true_eq]
 constructor
 ·rintro⟨z,hz,e⟩
  have:=(ad6 (by decide)).mp hz
  omega
 ·rintro⟨h1,h2⟩
  exact⟨i,(ad6 (by decide)).mpr ⟨by omega,by omega,by omega⟩,by omega⟩
theorem apR{m:Int}(h0:0<=m)(h1:m<=127):wk7 m=m:=by
 refine aaS (ab1 h0 0).1 h0 fun i=>?_
 have hz:∀j,7<=j->tb m j=false:=fun j hj=>abC (n:=7) (by rw[as9];omega) hj
 rw[(ab1 h0 i).2,hz (7+i) (by omega),Bool.or_false]
 rcases Nat.lt_or_ge i 7 with c | c
 ·rw[decide_eq_true c,Bool.and_true]
 ·rw[hz i c];rfl
theorem back{b:Bool}{M:Int}{os:List Mk}{prs:List (Nat×Nat)}(h0:0<=M)(hb:if b=true then M<=127 else ∀i,tb M i=true->1<=i/\i<=31)(hr:adU M 0 prs)
  (ho:∀k∈os,k.pl=none/\k.sp=true/\k.wk=b/\k.ok) (hne:M≠0∨os≠[]) (hlen:os.length<=10):
  Ws b (prs.map rt++os.map afJ) (prs.map (plm b)++os)/\aq6 b (prs.map (plm b)++os)=afZ b M++os/\abH 44 ((afZ b M++os).map afJ)=abH 44 (prs.map rt++os.map afJ)/\prs.map rt++os.map afJ≠[]/\(prs.map rt++os.map afJ).length<=27:=by
 have h64:M<2^64:=by
  cases b with
  |true=>exact arL h0 hb
  |false=>exact arA h0 hb
 have bd:=agX h64 hr
 have bit:∀x∈prs,tb M x.1=true/\tb M x.2=true:=fun x hx=>by
  have z:=bd x hx
  rw[adB hr x.1 (Nat.zero_le _),adB hr x.2 (Nat.zero_le _),List.any_eq_true,List.any_eq_true]
  refine⟨⟨x,hx,?_⟩,⟨x,hx,?_⟩⟩<;>simp<;>omega
 have lims:∀x∈prs,lo_ b<=x.1/\x.1<=x.2/\(x.2:Int)<=hi_ b:=fun x hx=>by
  have z:=bd x hx
  have t:=bit x hx
  cases b with
  |true=>
   have:=as2 h0 hb x.2 t.2
   exact⟨by show (0:Int)<=_;omega,z.2.1,by show _<=(7:Int);omega⟩
  |false=>
   have t1:=hb x.1 t.1
   have t2:=hb x.2 t.2
   exact⟨by show (1:Int)<=_;omega,z.2.1,by show _<=(31:Int);omega⟩
 have plen:prs.length<=16:=by
  rcases Nat.lt_or_ge 16 prs.length with c | c
  ·exfalso
   have e:prs=prs.take 16++prs.drop 16:=(List.take_append_drop 16 prs).symm
   have far:∀(l:List (Nat×Nat)) (lo:Nat),adU M lo l->∀x∈l.drop 16,lo+32<=x.1:=by
    intro l lo hl x hx
    match l,hl with
    |a0::a1::a2::a3::a4::a5::a6::a7::a8::a9::b0::b1::b2::b3::b4::b5::r,hl=>
     have p0:=hl.2.2.2.2.2
     have p1:=p0.2.2.2.2.2
     have p2:=p1.2.2.2.2.2
     have p3:=p2.2.2.2.2.2
     have p4:=p3.2.2.2.2.2
     have p5:=p4.2.2.2.2.2
     have p6:=p5.2.2.2.2.2
     have p7:=p6.2.2.2.2.2
     have p8:=p7.2.2.2.2.2
     have p9:=p8.2.2.2.2.2
     have q0:=p9.2.2.2.2.2
     have q1:=q0.2.2.2.2.2
     have q2:=q1.2.2.2.2.2
     have q3:=q2.2.2.2.2.2
     have q4:=q3.2.2.2.2.2
     have q5:=q4.2.2.2.2.2
     have w:=(agX h64 q5 x hx).1
     have:=hl.1;have:=hl.2.2.1;have:=p0.1;have:=p0.2.2.1;have:=p1.1;have:=p1.2.2.1;have:=p2.1;have:=p2.2.2.1;have:=p3.1;have:=p3.2.2.1;have:=p4.1;have:=p4.2.2.1;have:=p5.1;have:=p5.2.2.1;have:=p6.1;have:=p6.2.2.1;have:=p7.1;have:=p7.2.2.1;have:=p8.1;have:=p8.2.2.1;have:=p9.1;have:=p9.2.2.1;have:=q0.1;have:=q0.2.2.1;have:=q1.1;have:=q1.2.2.1;have:=q2.1;have:=q2.2.2.1;have:=q3.1;have:=q3.2.2.1;have:=q4.1;have:=q4.2.2.1
     omega
   have hd:prs.drop 16≠[]:=fun z=>by
    have:=congrArg List.length z
    rw[List.length_drop] at this
    simp at this
    omega
   obtain⟨x,hx⟩:=List.exists_mem_of_ne_nil _ hd
   have f:=far prs 0 hr x hx
   have t:=lims x (List.mem_of_mem_drop hx)
   cases b with
   |true=>have:(x.2:Int)<=7:=t.2.2;omega
   |false=>have:(x.2:Int)<=31:=t.2.2;omega
  ·exact c
 have hot:=anW (os:=os) fun k hk=>(ho k hk).1
 refine⟨amH (aiW fun x hx=>ap2 (lims x hx).1 (lims x hx).2.1 (lims x hx).2.2) ?_,?_,?_,?_,?_⟩
 ·have:=aiW (b:=b) (f:=afJ) (g:=id) (l:=os) fun k hk=>am9 (ho k hk).1 (ho k hk).2.1 (ho k hk).2.2.1 (ho k hk).2.2.2
  rw[List.map_id] at this
  exact this
 ·unfold aq6
  rw[(alF _ _).1,(alF _ _).2,(aiM prs).1,(aiM prs).2,hot.1,hot.2,List.append_nil,List.nil_append]
  congr 1
  cases b with
  |false=>exact congrArg (afZ false) (ajW h0 hr)
  |true=>
   have e:orM (prs.map fun x=>if true=true then wk7 (acS x.1 x.2 1) else acS x.1 x.2 1)=M:=by
    have e1:=aqZ (ms:=prs.map fun x:Nat×Nat=>acS x.1 x.2 1) fun m hm=>by
     obtain⟨x,_,rfl⟩:=List.mem_map.mp hm
     exact aaM _
    rw[ajW h0 hr,apR h0 hb,List.map_map] at e1
    exact e1.symm
   rw[e]
 ·by_cases c:M=0
  ·subst c
   rw[aqK hr]
   rfl
  ·have hp:prs≠[]:=fun e=>by
    subst e
    exact c (aaS h0 (Int.le_refl 0) fun i=>by rw[aaN];exact hr i (Nat.zero_le _))
   have e:(afZ b M).map afJ=[abH 44 (prs.map rt)]:=by
    unfold afZ
    rw[if_neg c]
    cases b with
    |true=>exact congrArg (fun z=>[z]) (amY h64 hr)
    |false=>exact congrArg (fun z=>[z]) (amY h64 hr)
   rw[List.map_append,e]
   exact an3 fun z=>hp (List.map_eq_nil_iff.mp z)
 ·intro z
  rw[List.append_eq_nil_iff,List.map_eq_nil_iff,List.map_eq_nil_iff] at z
  rcases hne with c | c
  ·exact c (aaS h0 (Int.le_refl 0) fun i=>by rw[aaN];rw[z.1] at hr;exact hr i (Nat.zero_le _))
  ·exact c z.2
 ·rw[List.length_append,List.length_map,List.length_map]
  omega
end KM
namespace L2
open PySem PySem.Spec PyProof.Rows
section
variable{X:Cx}{f:Addr}{k k':Nat}{ps:List Str}{sp:Sp}{x y e:Expr}{es:List Expr}{t:TA}{tv:TE}{p pos:Pos}
end
section
variable{X:Cx}{C:Addr}{m:Str}{k k':Nat}{ps:List Str}{sp:Sp}{o:Expr}{ta:TE}{apos pos:Pos}
end
section
variable{X:Cx}{body:List Stmt}{tb:TS}{h:ExceptHandler}{hs:List ExceptHandler}{pos:Pos}
end
section
variable{js:List Nat}{σ:St}{tt:TT}{te:TE}{Q:VK}{H1:Hp}
theorem aeE{K K':PySem.W.Frag}{a:Addr}{xs:List V}(R:Addr->Nat->List V->Hp->Prop)(hm:∀D i l H l',R D i l H->R D i l (upd H D (.lst l')))(hS:∀D i l H H',Same H H'->R D i l H->R D i l H')(hn:xs.length<=sizeLine)(h0:∀D,H1 D=none->R D 0 [] H1)(hq:SqL K H1 a xs)
  (hs:∀(i:Nat) (x:V) (l:List V) (D:Addr) (H2:Hp) (E:V->Hp->Prop) (F:Hp->Prop),xs[i]? =some x->R D i l H2->H1 D=none->Same H1 H2->H2 D=some (.lst l)->(∀y H5,Same H2 H5->R D (i+1) (l++[y]) H5->E y H5)->(∀H4,Same H2 H4->R D (i+1) l H4->F H4)->
   tt (some (.int i)::some x::aaH js σ) H2 fun b H4=>if b=true then te (some (.int i)::some x::aaH js σ) H4 E else F H4)
  (hd:∀(D:Addr) (H2:Hp) (l:List V),R D xs.length l H2->H1 D=none->Same H1 H2->H2 D=some (.lst l)->Q (.ref D) H2):
  aiB (Ite K a) 2 js (anB K' 2 (ai4 (acZ 0) (ai4 (acZ 1) ap5))) σ tt te Q H1:=by
 intro D hD
 refine⟨fun i m H2=>m=xs.length-i/\i<=xs.length/\Same H1 H2/\∃l,H2 D=some (.lst l)/\l.length<=i/\R D i l H2,⟨xs.length,by simp,Nat.zero_le _,aaB hD _,[],aaA,Nat.le_refl _,hm _ _ _ _ _ (h0 D hD)⟩,?_⟩
 rintro i m H2 ⟨rfl,hi,s2,l,h2,hll,hR⟩
 by_cases hlt:i<xs.length
 ·refine .inr ⟨⟨xs,xs[i],s2.seq hq,by simp[hlt]⟩,fun v H3 y τ hτ=>?_⟩
  obtain⟨T,rfl,hT,ev⟩:=y
  obtain⟨x,hx,rfl⟩:=ev xs (s2.seq hq)
  have sT:=aaB hT (.tup [.int i,x])
  have s3:=s2.trans sT
  have h3:=sT _ _ h2
  obtain⟨t0,t1,rfl⟩:∃t0 t1,τ=[t0,t1]:=by
   match τ,hτ with
   |[a,b],_=>exact⟨a,b,rfl⟩
  have h:=hs i x l D _ (fun y H5=>∃ys,H5 D=some (.lst ys)/\ys.length<sizeLine/\∃m',m'<xs.length-i/\(m'=xs.length-(i+1)/\i+1<=xs.length/\Same H1 (upd H5 D (.lst (ys++[y])))/\∃l,(upd H5 D (.lst (ys++[y]))) D=some (.lst l)/\l.length<=i+1/\R D (i+1) l (upd H5 D (.lst (ys++[y]))))) (fun H4=>∃m',m'<xs.length-i/\(m'=xs.length-(i+1)/\i+1<=xs.length/\Same H1 H4/\∃l,H4 D=some (.lst l)/\l.length<=i+1/\R D (i+1) l H4)) hx (hS _ _ _ _ _ sT hR) hD s3 h3
   (fun z H5 s5 r5=>by
    refine⟨l,s5 _ _ h3,Nat.lt_of_le_of_lt hll (Nat.lt_of_lt_of_le hlt hn),xs.length-(i+1),by omega,rfl,hlt,fun b o hb=>?_,l++[z],aaA,by rw[List.length_append,List.length_singleton];omega,hm _ _ _ _ _ r5⟩
    rw[aaF (aaE hb hD)]
    exact s5 _ _ (s3 _ _ hb))
   (fun H4 s4 r4=>⟨xs.length-(i+1),by omega,rfl,hlt,s3.trans s4,l,s4 _ _ h3,by omega,r4⟩)
  exact⟨T,[.int i,x],rfl,SqT.of aaA,rfl,.int i,[x],rfl,x,[],rfl,rfl,⟨[some (.int i),some x],rfl,rfl⟩,h⟩
 ·have e:i=xs.length:=by omega
  subst e
  exact .inl ⟨⟨xs,s2.seq hq,rfl⟩,hd D H2 l hR hD s2 h2⟩
end
section
variable{X:Cx}{o i:Expr}{td ty:TE}{pos:Pos}
end
end L2
namespace KM
open PySem PySem.Spec PyProof.Rows L2
def DV(c:Cs)(H:Hp)(v:V):Option (List Mk)->Prop
 |none=>v=.non
 |some ks=>∃p qs,v=.ref p/\H p=some (.lst (qs.map V.ref))/\Ft (MkAt c H) qs ks/\∀k∈ks,k.ok
theorem DV.keep{c:Cs}{H H':Hp}(s:Same H H'){v:V}:∀{ko:Option (List Mk)},DV c H v ko->DV c H' v ko
 |none,h=>h
 |some _,⟨p,qs,e,h1,h2,h3⟩=>⟨p,qs,e,s _ _ h1,h2.keepM s.keep,h3⟩
end KM
namespace L2
open PySem PySem.Spec PyProof.Rows
section
open PySem.W Builtin Builtin.ObjectAttr
variable{prog:Program}{w:World}{A:Around}{E:Value->Shared->Prop}{s:Shared}{K:PySem.W.Frag}{x C:Addr}{f:Str}{v:Value}{o:Obj}{vs:Array Value}
end
def PY(e C:Addr)(d:Option Addr)(h:Heap):Prop:=∃(vs:Array Value) (sl:Array (Option Value)),h.get? e=some ⟨.ref C,d,.fields vs,sl⟩/\vs[1]? =some .none/\vs[2]? =some .none/\4<vs.size
def xn(a C:Addr)(d:Option Addr):HO:=.ext (PY a C d)
theorem PY.ok{P:Program}{w:World}{H:Hp}{h:Heap}{a C:Addr}{d:Option Addr}(x:PY a C d h):ObjOk P w H h a (xn a C d):=by
 obtain⟨vs,sl,e,r⟩:=id x
 exact⟨x,⟨_,e⟩,fun h1 h2 ⟨vs,sl,e,r⟩ k=>⟨vs,sl,k _ e,r⟩⟩
section
variable{X:Cx}{pins:List (Addr×Obj)}{σ:St}{H:Hp}{s:Shared}{a C:Addr}{f:Str}
end
section
variable{X:Cx}{o e value:Expr}{ta tv:TE}{f:Str}{pos pos':Pos}
end
section
open PySem.W
variable{prog:Program}{w:World}{A:Around}{E:Value->Shared->Prop}{s:Shared}{K:PySem.W.Frag}{C fI:Addr}
end
section
variable{X:Cx}{pins:List (Addr×Obj)}{σ:St}{H:Hp}{s:Shared}
end
section
variable{prog:Program}{w:World}{A:Around}{E:Value->Shared->Prop}{s:Shared}{env:Env}
end
section
variable{X:Cx}{E:XK}{x:Str}{C:Addr}{e:Expr}{es:List Expr}{t:TA}{np cpos pos:Pos}{k k':Nat}{ps:List Str}{sp:Sp}
end
structure RoomQ(k:Nat)(A:Around):Prop where
 dp:A.depth+3*k+5<recursionLimit
 un:A.units+16*k+200<cLine
theorem Room.q{k:Nat}{A:Around}(r:Room k A):RoomQ k A:=⟨r.dp,r.un⟩
section
variable{P:Program}{w:World}{K:PySem.W.Frag}{mg:Str->Option Value}{base:Heap}{N ps:List Str}{qual:Str}{scope:Scope}{f:Addr}{cd:Value}{A:Around}{outer:List Env}{s s1:Shared}{H:Hp}{us:List Value}{vs:List V}
end
section
variable{P:Program}{w:World}{K:PySem.W.Frag}{mg:Str->Option Value}{base:Heap}{x:Str}{st:Stmt}{ps N:List Str}{k:Nat}{sp:Sp}
end
section
variable{X:Cx}{k k':Nat}{ps:List Str}{sp:Sp}{x:Str}{e:Expr}{es:List Expr}{tA:TA}{p pos:Pos}
end
section
variable{X:Cx}{f:Addr}{k k':Nat}{ps:List Str}{sp:Sp}{x y e:Expr}{es:List Expr}{tA:TA}{tv:TE}{p pos:Pos}{t u:TX}
end
section
variable{M:Model}{A:Around}{E:Value->Shared->Prop}{s:Shared}{f:Obj->Prop}{B:Heap}{env:Env}{outer:List Env}{L e:Addr}{fl:Value}{Q:Unit->Shared->Prop}
end
section
variable{P:Program}{w:World}{K:PySem.W.Frag}{mg:Str->Option Value}{base:Heap}{N:List Str}{qual:Str}{scope:Scope}{f:Addr}{cd:Value}{A:Around}{outer:List Env}{s0:Shared}{H0:Hp}{E:XK}
end
section
variable{X:Cx}{elt iter tg:Expr}{xs:List Str}{pos:Pos}{ifs:List Expr}{scope:Scope}{cl:List (Str×Addr)}{N':List Str}{js:List Nat}{tt:TT}{g:TG}{wi:TI}
end
section
variable{P:Program}{w:World}{K:PySem.W.Frag}{mg:Str->Option Value}{base:Heap}{N:List Str}{qual:Str}{scope0:Scope}{f:Addr}{cd:Value}{A:Around}{outer:List Env}{s0:Shared}{H0:Hp}{E:XK}
variable{elt iter tg:Expr}{pos:Pos}{ifs:List Expr}{scope:Scope}{js:List Nat}{tt:TT}{te:TX}{g:TG}{wi:TI}
end
section
variable{js:List Nat}{σ:St}{tt:TT}{te:TX}{E:XK}{Q:VK}{H1:Hp}
end
section
variable{P:Program}{w:World}{K:PySem.W.Frag}{mg:Str->Option Value}{base:Heap}{m qual:Str}{st:Stmt}{ps N:List Str}{k:Nat}{sp:Sp}{C:Addr}
end
section
variable{X:Cx}{pins:List (Addr×Obj)}{σ:St}{H:Hp}{s:Shared}
end
section
variable{X:Cx}{E:XK}{x:Str}{C a:Addr}{e:Expr}{es:List Expr}{t:TA}{np cpos pos p2:Pos}{j k k':Nat}{ps:List Str}{sp:Sp}
end
theorem RoomQ.units{k:Nat}{A:Around}(r:RoomQ k A):A.units+64<cLine:=by have:=r.un;omega
section
variable{prog:Program}{w:World}{A:Around}{E:Value->Shared->Prop}{s:Shared}
end
section
variable{X:Cx}{elt iter:Expr}{x:Str}{px pos:Pos}{ifs:List Expr}{scope:Scope}{cl:List (Str×Addr)}{N':List Str}{js:List Nat}{tt:TT}{te:TE}
end
section
variable{X:Cx}{elt a1:Expr}{x:Str}{px pos p rpos:Pos}{ifs:List Expr}{scope:Scope}{js:List Nat}{tt:TT}{te:TE}{tA:TA}
end
section
variable{X:Cx}{pins:List (Addr×Obj)}{σ:St}{H:Hp}{s:Shared}
end
section
variable{X:Cx}{body suite:List Stmt}{b0:Stmt}{tb:TB}{th:Addr->TS}{cx n:Str}{np hpos pos:Pos}{CF:Addr}
end
section
variable{X:Cx}{E:XK}{x:Str}{C:Addr}{np cpos pos:Pos}
end
end L2
namespace L2
open PySem PySem.Spec PyProof.Rows PySem.SeqAt
theorem aa4{α:Type}[DecidableEq α]:∀{xs ys:List α},xs.Nodup->(∀x∈xs,x∈ys)->xs.length<=ys.length
 |[],_,_,_=>Nat.zero_le _
 |x::xs,ys,hn,hs=>by
  have hx:x∈ys:=hs x (by simp)
  have hn':=List.nodup_cons.mp hn
  have ih:=aa4 (xs:=xs) (ys:=ys.erase x) hn'.2 fun z hz=>by
   have ne:z≠x:=fun e=>hn'.1 (e▸hz)
   exact (List.mem_erase_of_ne ne).mpr (hs z (List.mem_cons_of_mem _ hz))
  rw[List.length_erase_of_mem hx] at ih
  have:0<ys.length:=List.length_pos_of_mem hx
  rw[List.length_cons]
  omega
section
variable{X:Cx}
theorem asO:Op2 X (binaryOp .FloorDiv) (rI (fun _ j=>0<j/\j<2^64) fun i j=>.int (i / j)):=⟨opI fun i j _ _ _ _ _ hc q=>by
 have h1:(0:Int)<j:=hc.1
 have h2:j<2^64:=hc.2
 refine floordiv_int (by omega) (by rw[Int.fdiv_eq_ediv_of_nonneg i (by omega)];exact q) (.inl (PyProof.noPylong_of_log2 ?_))
 have:j.natAbs.log2<64:=(Nat.log2_lt (by omega)).mpr (by omega)
 omega⟩
theorem arP(hc:X.calm=true:=by rfl):Cl1 X (.builtin "sorted") (fun xs H Q=>∃(q:Addr) (ns:List Int),xs=[.ref q]/\H q=some (stO X.prog X.w q ns)/\ns.length<=63/\∀(D:Addr) (zs:List Int),H D=none->zs.Pairwise (·<·)->(∀x,x∈zs↔x∈ns)->Q (.ref D) (upd H D (.lst (zs.map V.int)))):=by
 refine⟨fun pins s σ H xs us Q I r h=>?_⟩
 obtain⟨q,ns,rfl,hq,hb,k⟩:=h
 obtain⟨u,rfl,ru⟩:=adQ r
 cases ru
 obtain⟨es,ep,t,e,SE,m⟩:=(I.hok q _ hq).1
 have h63:=aa4 SE.nd fun x hx=>(m x).mp hx
 have hes:es.size<64:=by
  unfold aa5 at h63
  rw[List.length_map,Array.length_toList] at h63
  omega
 refine aiQ (I.ok.hd hc) e SE hes fun s' D vs zs c lD eD hi hp hm kp g o=>?_
 have vz:=adH hi
 have lz:zs.length<=63:=Nat.le_trans (aa4 (hp.imp fun h=>by omega) fun x hx=>(m x).mp ((hm x).mp hx)) hb
 have J:=(I.laid (a:=D) (o:=.lst (zs.map V.int)) (t':=s.toks) (h':=s'.heap) kp lD ⟨by rw[List.length_map,sizeLine_eq];omega,vs,c,vz,eD⟩).other (s':=s') rfl g o
 exact⟨.ref D,_,J,rfl,k D zs (I.hok.fresh lD) hp fun x=>(hm x).trans (m x)⟩
def aoR(K:PySem.W.Frag):V->List V->Hp->VK->Prop:=fun x vs H Q=>∃(a:Addr) (ns:List Int) (z:Int) (j:Nat),x=.ref a/\vs=[.int z]/\SqL K H a (ns.map V.int)/\ns[j]? =some z/\(∀m,m<j->ns[m]? ≠some z)/\Q (.int j) H
theorem anD:MtR X "list.index" (aoR X.K):=by
 intro pins s σ H x xs v us Q I rx rv h
 obtain⟨a,ns,w,j,rfl,rfl,hq,hj,hno,q⟩:=h
 obtain⟨u,rfl,r1⟩:=adQ rv
 obtain⟨t,rfl⟩:=r1
 cases rx
 obtain⟨its,rv2,pl,hz⟩:=I.list hq
 obtain⟨o,ho,hc,n,hd⟩:=pl.isList
 have hlen:ns.length=its.length:=by simpa using rv2.length
 have at_:∀(m:Nat) (z:Int),ns[m]? =some z->∃tk,its[m]? =some (Value.int z tk):=by
  intro m z hm
  obtain⟨u,hu,tk,hr⟩:=Vals.get rv2 (i:=m) (x:=V.int z) (by rw[List.getElem?_map,hm];rfl)
  exact⟨tk,by rw[hu,hr]⟩
 have hjl:j<its.length:=by
  have:=(List.getElem?_eq_some_iff.mp hj).1
  omega
 let e:Value->Bool:=fun y=>match y with | .int z _=>z==w | _=>false
 have got:∀(m:Nat) (hm:m<its.toArray.size) (z:Int),ns[m]? =some z->∃tk,its.toArray[m]=Value.int z tk:=fun m hm z hz=>by
  obtain⟨tk,hu⟩:=at_ m z hz
  exact⟨tk,by have:=(List.getElem?_eq_some_iff.mp hu).2;simpa using this⟩
 have hit:e (its.toArray[j]'(by simpa using hjl))=true:=by
  obtain⟨tk,hu⟩:=got j (by simpa using hjl) w hj
  rw[hu]
  show (w==w)=true
  simp
 have hmiss:∀m (hm:m<its.toArray.size),m<j->e its.toArray[m]=false:=by
  intro m hm hmj
  have hml:m<ns.length:=by
   have:its.toArray.size=its.length:=by simp
   omega
  obtain⟨tk,hu⟩:=got m hm ns[m] (List.getElem?_eq_getElem hml)
  rw[hu]
  show (ns[m]==w)=false
  exact beq_eq_false_iff_ne.mpr fun z=>hno m hmj (by rw[List.getElem?_eq_getElem hml,z])
 have hsm:(j:Int)<2^63-1:=by
  have h1:its.length<=sizeLine:=by have:=rv2.length;omega
  rw[sizeLine_eq] at h1
  omega
 have heq:∀y,y∈its.toArray->SeqAt.EqAt X.A.in1 s y (.int w t) (e y):=by
  intro y hy
  have hy:y∈its:=by simpa using hy
  obtain⟨m,hm⟩:=List.mem_iff_getElem?.mp hy
  have hml:m<ns.length:=by
   have:=(List.getElem?_eq_some_iff.mp hm).1
   omega
  obtain⟨tk,hu⟩:=at_ m ns[m] (List.getElem?_eq_getElem hml)
  rw[hm] at hu
  cases hu
  exact SeqAt.EqAt.int_int _ _ _ _
 obtain⟨oc,od,oda,osl⟩:=o
 cases hc
 cases hd
 exact call_meets PySem.F.slot_list_index ⟨_,ho,rfl⟩ PySem.F.entry_list_index (PySem.F.args_list_index_2 _ _) (SeqAt.list_indexAt a its.toArray n od osl (.int w t) e j (by simpa using hjl) hsm hit hmiss) ⟨ho,heq,⟨.int j,H,I.tok _,⟨_,rfl⟩,q⟩⟩
theorem asL{o e:Expr}{to te:TE}{apos cpos:Pos}(ho:E X o to)(he:E X e te)(hbase:attributeBase o "index" X.env (eval o X.env)=eval o X.env:=by rfl)
  (hfew:((backTo cpos (starEach [e] X.env)).all (fun x=> !x.1)&&(backToKw cpos (keywordEach [] X.env)).all (fun x=>x.1.isSome)&&decide (([e]:List Expr).length+([]:List Keyword).length+(if ([]:List Keyword).isEmpty then 0 else 1)<30))=true:=by rfl)
  (hline:(apos.endLine==cpos.line)=true:=by rfl) (hs:starEach [e] X.env=(false,eval e X.env)::starEach [] X.env:=by rfl) (hplain:(backTo cpos (starEach [] X.env)).any (·.1)=false:=by rfl):
  E X (.Call (.Attribute o "index" apos) [e] [] cpos) (tBM X.K "list" (aoR X.K) to (afY te aj3)):=
 ⟨alN PySem.F.plainAttrs_list PySem.F.slot_list_index PySem.F.type_list_index anD ho.h (acG he.h adM hs) hbase hfew hline hs hplain⟩
theorem eExt{o e:Expr}{to te:TE}{apos cpos:Pos}(ho:E X o to)(he:E X e te)(hbase:attributeBase o "extend" X.env (eval o X.env)=eval o X.env:=by rfl)
  (hfew:((backTo cpos (starEach [e] X.env)).all (fun x=> !x.1)&&(backToKw cpos (keywordEach [] X.env)).all (fun x=>x.1.isSome)&&decide (([e]:List Expr).length+([]:List Keyword).length+(if ([]:List Keyword).isEmpty then 0 else 1)<30))=true:=by rfl)
  (hline:(apos.endLine==cpos.line)=true:=by rfl) (hs:starEach [e] X.env=(false,eval e X.env)::starEach [] X.env:=by rfl) (hplain:(backTo cpos (starEach [] X.env)).any (·.1)=false:=by rfl):
  E X (.Call (.Attribute o "extend" apos) [e] [] cpos) (tBM X.K "list" ajY to (afY te aj3)):=
 ⟨alN PySem.F.plainAttrs_list PySem.F.slot_list_extend PySem.F.type_list_extend akK ho.h (acG he.h adM hs) hbase hfew hline hs hplain⟩
theorem iEc{K:PySem.W.Frag}{es:List Expr}{kk:Nat}{tpos:Pos}{l:Expr}{tl:TE}{p pos:Pos}(hm:X.mg "enumerate"=none)(hl:E X l tl)(hK:X.K=K:=by rfl)(hg:Gl X "enumerate":=by rfl)(hs:starEach [l] X.env=[(false,eval l X.env)]:=by rfl):
  Il X (.Tuple es kk tpos) (.Call (.Name "enumerate" p) [l] [] pos) (arQ K tl):=by
 subst hK
 exact iE hm hl hg hs
end
end L2
namespace KF
open PySem PySem.Spec PyProof.Rows L2
theorem agG{c d m:Int}(hc:0<=c)(hd:0<=d)(hm:0<=m)(h0:∀i,(tb c i&&tb d i)=false)(h1:∀i,(tb c i||tb d i)=tb m i):c+d=m:=by
 have ea:Builtin.bitAnd c d=0:=aaS (adG hc hd) (Int.le_refl 0) fun i=>by rw[abQ hc hd,h0,aaN]
 have eo:Builtin.bitOr c d=m:=aaS (aeU hc hd) hm fun i=>by rw[ahA hc hd,h1]
 rw[←eo,bitOr_and,ea]
 omega
theorem amU{m x:Int}(hm:0<=m)(hx:0<=x):0<=Builtin.bitAnd m (-x-1)/\∀i,tb (Builtin.bitAnd m (-x-1)) i=(tb m i&& !tb x i):=by
 have e:Builtin.bitAnd m (-x-1)=m-Builtin.bitAnd m x:=by
  rw[bitAnd_pn hm (by omega),bitAnd_pp hm hx]
  have:Builtin.bitNot (-x-1)=x:=by unfold Builtin.bitNot;omega
  rw[this]
 obtain⟨n,hn⟩:∃n:Nat,m<2^n:=⟨_,ai3 hm⟩
 have hs:=agG (c:=mk_ (fun i=>tb m i&& !tb x i) n) (d:=Builtin.bitAnd m x) (acY _ _) (adG hm hx) hm (fun i=>by
   rw[adP,abQ hm hx]
   cases tb m i<;>cases tb x i<;>simp) (fun i=>by
   rw[adP,abQ hm hx]
   by_cases c:i<n
   ·rw[decide_eq_true c];cases tb m i<;>cases tb x i<;>rfl
   ·rw[abC hn (by omega)];simp)
 have e2:Builtin.bitAnd m (-x-1)=mk_ (fun i=>tb m i&& !tb x i) n:=by omega
 rw[e2]
 refine⟨acY _ _,fun i=>?_⟩
 rw[adP]
 by_cases c:i<n
 ·rw[decide_eq_true c,Bool.true_and]
 ·rw[abC hn (by omega)];simp
theorem as8{m:Int}(h:0<m):∃k,tb m k=true/\∀j,j<k->tb m j=false:=by
 have hex:∃i,tb m i=true:=by
  cases Classical.em (∃i,tb m i=true) with
  |inl z=>exact z
  |inr z=>
   have:m=0:=aaS (by omega) (Int.le_refl 0) fun i=>by
    rw[aaN]
    cases e:tb m i with
    |false=>rfl
    |true=>exact absurd ⟨i,e⟩ z
   omega
 obtain⟨i,hi⟩:=hex
 have key:∀n i,i<=n->tb m i=true->∃k,tb m k=true/\∀j,j<k->tb m j=false:=by
  intro n
  induction n with
  |zero=>
   intro i hi h
   obtain rfl:i=0:=by omega
   exact⟨0,h,fun j hj=>absurd hj (Nat.not_lt_zero _)⟩
  |succ n ih=>
   intro i hi h
   cases Classical.em (∃j,j<i/\tb m j=true) with
   |inl z=>
    obtain⟨j,hj,hb⟩:=z
    exact ih j (by omega) hb
   |inr z=>
    exact⟨i,h,fun j hj=>by
     cases e:tb m j with
     |false=>rfl
     |true=>exact absurd ⟨j,hj,e⟩ z⟩
 exact key i i (Nat.le_refl _) hi
theorem anM{m:Int}(h:0<m){k:Nat}(hk:tb m k=true)(hj:∀j,j<k->tb m j=false):Builtin.bitAnd m (-m)=2^k:=by
 have hm1:0<=m-1:=by omega
 have e:Builtin.bitAnd m (-m)=m-Builtin.bitAnd m (m-1):=by
  rw[bitAnd_pn (by omega) (by omega),bitAnd_pp (by omega) hm1]
  have:Builtin.bitNot (-m)=m-1:=by unfold Builtin.bitNot;omega
  rw[this]
 obtain⟨n,rfl⟩:=Int.eq_ofNat_of_zero_le (Int.le_of_lt h)
 have hkn:n.testBit k=true:=hk
 have hjn:∀j,j<k->n.testBit j=false:=hj
 have em:n%2^k=0:=Nat.eq_of_testBit_eq fun i=>by
  rw[Nat.testBit_mod_two_pow,Nat.zero_testBit]
  by_cases c:i<k
  ·rw[decide_eq_true c,hjn i c];rfl
  ·rw[decide_eq_false c];rfl
 have hd:n=2^k*(n / 2^k):=by
  have:=Nat.div_add_mod n (2^k)
  omega
 have ho:(n / 2^k).testBit 0=true:=by rw[Nat.testBit_div_two_pow,Nat.zero_add];exact hkn
 have ho:n / 2^k%2=1:=by
  rw[Nat.testBit_zero] at ho
  exact of_decide_eq_true ho
 obtain⟨q,hq⟩:∃q,n / 2^k=2*q+1:=⟨n / 2^k / 2,by omega⟩
 have hp:=Nat.two_pow_pos k
 have e1:n=2^(k+1)*q+2^k:=by rw[hd,hq,Nat.mul_add,Nat.mul_one,←Nat.mul_assoc,Nat.pow_succ]
 have e2:n-1=2^(k+1)*q+(2^k-1):=by omega
 have hl:2^k-1<2^(k+1):=by rw[Nat.pow_succ];omega
 have hl2:2^k<2^(k+1):=by rw[Nat.pow_succ];omega
 have tb1:∀i,tb ((n:Int)-1) i=(if i<k+1 then (2^k-1).testBit i else q.testBit (i-(k+1))):=fun i=>by
  unfold tb
  have:((n:Int)-1).toNat=n-1:=by omega
  rw[this,e2,Nat.testBit_two_pow_mul_add _ hl]
 have tbn:∀i,tb (n:Int) i=(if i<k+1 then (2^k).testBit i else q.testBit (i-(k+1))):=fun i=>by
  unfold tb
  rw[Int.toNat_natCast,e1,Nat.testBit_two_pow_mul_add _ hl2]
 have hz:∀i,(tb (2^k) i&&tb (Builtin.bitAnd (n:Int) ((n:Int)-1)) i)=false:=fun i=>by
  rw[adI,abQ (by omega) hm1,tb1]
  by_cases c:k=i
  ·subst c
   rw[if_pos (by omega),Nat.testBit_two_pow_sub_one]
   simp
  ·rw[decide_eq_false c];rfl
 have hs:=agG (c:=2^k) (d:=Builtin.bitAnd (n:Int) ((n:Int)-1)) (m:=(n:Int)) (Int.le_of_lt (abI k)) (adG (by omega) hm1) (by omega) hz (fun i=>by
  rw[adI,abQ (by omega) hm1,tb1,tbn]
  by_cases c:i<k+1
  ·rw[if_pos c,if_pos c,Nat.testBit_two_pow_sub_one,Nat.testBit_two_pow]
   by_cases d:k=i
   ·subst d;simp
   ·rw[decide_eq_false d];simp
  ·rw[if_neg c,if_neg c,decide_eq_false (by omega)]
   cases q.testBit (i-(k+1))<;>rfl)
 omega
theorem amZ(k:Nat):Builtin.Int.intBits (2^k)=k+1:=by
 unfold Builtin.Int.intBits
 have h0:((2:Int)^k==0)=false:=beq_eq_false_iff_ne.mpr (Int.ne_of_gt (abI k))
 rw[h0]
 have:((2:Int)^k).natAbs=2^k:=by rw[←aaZ,Int.natAbs_natCast]
 rw[this,Nat.log2_two_pow]
 rfl
def sub(m o:Int):Prop:=Builtin.bitAnd m o=m
theorem aaY{m o:Int}(hm:0<=m)(ho:0<=o):sub m o↔∀i,tb m i=true->tb o i=true:=by
 constructor
 ·intro h i hi
  have z:=congrArg (fun z=>tb z i) h
  simp only[abQ hm ho] at z
  rw[hi] at z
  simpa using z
 ·intro h
  exact aaS (adG hm ho) hm fun i=>by
   rw[abQ hm ho]
   cases e:tb m i with
   |false=>rfl
   |true=>rw[h i e];rfl
theorem aq1{m o:Int}(hm:0<=m)(ho:0<=o)(h:sub m o):m<=o:=by
 unfold sub at h
 rw[bitAnd_pp hm ho] at h
 have:=Nat.and_le_right (n:=m.toNat) (m:=o.toNat)
 omega
instance (m o:Int):Decidable (sub m o):=inferInstanceAs (Decidable (_=_))
def aaP(m:Int)(ms:List Int):Int:=orM (ms.filter fun o=>decide (o≠m)&&decide (sub o m))
theorem abG{m:Int}{ms:List Int}(hn:∀o∈ms,0<=o):0<=aaP m ms/\∀i,tb (aaP m ms) i=true↔∃o∈ms,o≠m/\sub o m/\tb o i=true:=by
 have hn':∀o∈ms.filter (fun o=>decide (o≠m)&&decide (sub o m)),0<=o:=fun o ho=>hn o (List.mem_filter.mp ho).1
 refine⟨ad9 hn',fun i=>?_⟩
 unfold aaP
 rw[aeK hn',List.any_eq_true]
 constructor
 ·rintro⟨o,ho,hb⟩
  obtain⟨h1,h2⟩:=List.mem_filter.mp ho
  rw[Bool.and_eq_true,decide_eq_true_eq,decide_eq_true_eq] at h2
  exact⟨o,h1,h2.1,h2.2,hb⟩
 ·rintro⟨o,h1,h2,h3,hb⟩
  exact⟨o,List.mem_filter.mpr ⟨h1,by rw[Bool.and_eq_true,decide_eq_true_eq,decide_eq_true_eq];exact⟨h2,h3⟩⟩,hb⟩
def NM(L ms:List Int):Prop:=L.Pairwise (·<·)/\∀x,x∈L↔x∈ms/\aaP x ms≠x
theorem NM.len{L L' ms:List Int}(h:NM L ms)(h':NM L' ms):L.length<=L'.length:=aa4 (h.1.imp fun z=>by omega) fun x hx=>(h'.2 x).mpr ((h.2 x).mp hx)
theorem aoK{ms:List Int}(hn:∀o∈ms,0<=o):∀(n:Nat) (m:Int),m.toNat<=n->m∈ms->∀i,tb m i=true->∃k∈ms,aaP k ms≠k/\sub k m/\tb k i=true:=by
 intro n
 induction n with
 |zero=>
  intro m hm hmem i hi
  have:m=0:=by have:=hn m hmem;omega
  rw[this,aaN] at hi
  cases hi
 |succ n ih=>
  intro m hm hmem i hi
  have h0:=hn m hmem
  by_cases c:aaP m ms=m
  ·have hb:tb (aaP m ms) i=true:=by rw[c];exact hi
   obtain⟨o,h1,h2,h3,h4⟩:=((abG hn).2 i).mp hb
   have ho:=hn o h1
   have hle:=aq1 ho h0 h3
   obtain⟨k,k1,k2,k3,k4⟩:=ih o (by omega) h1 i h4
   have hk:=hn k k1
   exact⟨k,k1,k2,(aaY hk h0).mpr fun j hj=>(aaY ho h0).mp h3 j ((aaY hk ho).mp k3 j hj),k4⟩
  ·exact⟨m,hmem,c,(aaY h0 h0).mpr fun _ h=>h,hi⟩
theorem ag9{m:Int}{ms:List Int}(hm:0<=m)(hn:∀o∈ms,0<=o):∀i,tb (aaP m ms) i=true->tb m i=true:=fun i h=>by
 obtain⟨o,h1,_,h3,h4⟩:=((abG hn).2 i).mp h
 exact (aaY (hn o h1) hm).mp h3 i h4
theorem aj7{ms:List Int}(hn:∀o∈ms,0<=o):aaP 0 ms=0:=aaS (abG hn).1 (Int.le_refl 0) fun i=>by
 cases e:tb (aaP 0 ms) i with
 |false=>rw[aaN]
 |true=>exact (ag9 (Int.le_refl 0) hn i e).symm
theorem anO{m:Int}{ms:List Int}(hm:0<=m)(hn:∀o∈ms,0<=o)(h:aaP m ms≠m):0<Builtin.bitAnd m (-(aaP m ms)-1):=by
 have a:=amU hm (abG (m:=m) hn).1
 rcases Int.lt_or_eq_of_le a.1 with z | z
 ·exact z
 ·exfalso
  refine h (aaS (abG hn).1 hm fun i=>?_)
  have e:=a.2 i
  rw[←z,aaN] at e
  cases e1:tb m i with
  |false=>
   cases e2:tb (aaP m ms) i with
   |false=>rfl
   |true=>rw[ag9 hm hn i e2] at e1;cases e1
  |true=>
   rw[e1] at e
   cases e2:tb (aaP m ms) i with
   |false=>rw[e2] at e;cases e
   |true=>rfl
abbrev gd(ms:List Int)(i:Nat):Int:=ms.getD i 0
structure MsOk(ms:List Int):Prop where
 len:ms.length=24
 bd:∀m∈ms,0<=m/\m<2^60
theorem aa2{ms:List Int}{i:Nat}{m:Int}(h:ms[i]? =some m):gd ms i=m:=by unfold gd;rw[List.getD_eq_getElem?_getD,h];rfl
theorem abP{ms:List Int}{i:Nat}(h:i<ms.length):gd ms i∈ms:=by
 rw[aa2 (List.getElem?_eq_getElem h)]
 exact List.getElem_mem h
theorem aeB{ms:List Int}{i:Nat}(h:ms.length<=i):gd ms i=0:=by unfold gd;rw[List.getD_eq_getElem?_getD,List.getElem?_eq_none h];rfl
theorem MsOk.nn{ms:List Int}(h:MsOk ms)(i:Nat):0<=gd ms i/\gd ms i<2^60:=by
 by_cases c:i<ms.length
 ·exact h.bd _ (abP c)
 ·rw[aeB (by omega)];exact⟨Int.le_refl 0,by decide⟩
theorem MsOk.hr{ms:List Int}(h:MsOk ms){i j:Nat}(hb:tb (gd ms i) j=true):i<24/\j<60:=by
 constructor
 ·rcases Nat.lt_or_ge i 24 with c | c
  ·exact c
  ·rw[aeB (by rw[h.len];exact c),aaN] at hb;cases hb
 ·rcases Nat.lt_or_ge j 60 with c | c
  ·exact c
  ·rw[abC (h.nn i).2 c] at hb;cases hb
def col(ms:List Int)(j:Nat):Int:=mk_ (fun h=>tb (gd ms h) j) ms.length
def aaU(ms:List Int):List Int:=(List.range 60).map (col ms)
theorem amR{ms:List Int}(h:MsOk ms)(j i:Nat):tb (col ms j) i=tb (gd ms i) j:=by
 unfold col
 rw[adP,h.len]
 by_cases c:i<24
 ·rw[decide_eq_true c,Bool.true_and]
 ·rw[decide_eq_false c,Bool.false_and,aeB (by rw[h.len];omega),aaN]
theorem ajU{ms:List Int}{j:Nat}(hj:j<60):gd (aaU ms) j=col ms j:=by
 refine aa2 ?_
 unfold aaU
 rw[List.getElem?_map,List.getElem?_range hj]
 rfl
theorem ab3(ms:List Int):(aaU ms).length=60:=by unfold aaU;rw[List.length_map,List.length_range]
theorem am3{ms:List Int}(h:MsOk ms):∀m∈aaU ms,0<=m/\m<2^24:=fun m hm=>by
 obtain⟨j,_,rfl⟩:=List.mem_map.mp hm
 exact⟨acY _ _,by rw[←h.len];exact ah1 _ _⟩
def adW(m:Int)(ms:List Int):Int:=mk_ (fun i=>decide (sub m (gd ms i))) ms.length
theorem acE{m:Int}{ms:List Int}(i:Nat):tb (adW m ms) i=true↔i<ms.length/\sub m (gd ms i):=by
 unfold adW
 rw[adP,Bool.and_eq_true,decide_eq_true_eq,decide_eq_true_eq]
theorem al4{m:Int}(h:0<=m){i:Nat}(hi:tb m i=true):0<m:=by
 rcases Int.lt_or_eq_of_le h with z | z
 ·exact z
 ·rw[←z,aaN] at hi;cases hi
structure RowsOk(ms:List Int)(rows:List (Int×Int)):Prop where
 bd:∀r∈rows,(0<r.1/\r.1<2^24)/\0<r.2/\r.2<2^60
 rect:∀r∈rows,∀h j,tb r.1 h=true->tb r.2 j=true->tb (gd ms h) j=true
 cov:∀h j,tb (gd ms h) j=true->∃r∈rows,tb r.1 h=true/\tb r.2 j=true
def ae8(ms L:List Int):List (Int×Int):=L.map fun m=>(adW m ms,m)
def aeW(bm L:List Int):List (Int×Int):=L.map fun m=>(m,adW m bm)
theorem amE{ms L:List Int}(hn:∀o∈ms,0<=o)(h:NM L ms){m:Int}(hm:m∈L):0<m:=by
 obtain⟨h1,h2⟩:=(h.2 m).mp hm
 rcases Int.lt_or_eq_of_le (hn m h1) with z | z
 ·exact z
 ·rw[←z,aj7 hn] at h2;exact absurd rfl h2
theorem ak2{ms:List Int}{m:Int}(h:m∈ms):∃i,i<ms.length/\gd ms i=m:=by
 obtain⟨i,hi,e⟩:=List.getElem_of_mem h
 exact⟨i,hi,by rw[aa2 (List.getElem?_eq_getElem hi),e]⟩
theorem aqT{ms L:List Int}(h:MsOk ms)(hL:NM L ms):RowsOk ms (ae8 ms L):=by
 have hn:∀o∈ms,0<=o:=fun o ho=>(h.bd o ho).1
 refine⟨fun r hr=>?_,fun r hr x j h1 h2=>?_,fun x j hb=>?_⟩
 ·obtain⟨m,hm,rfl⟩:=List.mem_map.mp hr
  obtain⟨h1,_⟩:=(hL.2 m).mp hm
  obtain⟨i,hi,e⟩:=ak2 h1
  have hp:=amE hn hL hm
  refine⟨⟨al4 (i:=i) (acY _ _) ((acE i).mpr ⟨hi,by rw[e];exact (aaY (hn m h1) (hn m h1)).mpr fun _ z=>z⟩),?_⟩,hp,(h.bd m h1).2⟩
  show adW m ms<2^24
  rw[←h.len]
  exact ah1 _ _
 ·obtain⟨m,hm,rfl⟩:=List.mem_map.mp hr
  obtain⟨h3,_⟩:=(hL.2 m).mp hm
  exact (aaY (hn m h3) (h.nn x).1).mp ((acE x).mp h1).2 j h2
 ·have hx:=(h.hr hb).1
  have hmem:gd ms x∈ms:=abP (by rw[h.len];exact hx)
  obtain⟨k,k1,k2,k3,k4⟩:=aoK hn _ (gd ms x) (Nat.le_refl _) hmem j hb
  exact⟨_,List.mem_map.mpr ⟨k,(hL.2 k).mpr ⟨k1,k2⟩,rfl⟩,(acE x).mpr ⟨by rw[h.len];exact hx,k3⟩,k4⟩
theorem aqA{ms L:List Int}(h:MsOk ms)(hL:NM L (aaU ms)):RowsOk ms (aeW (aaU ms) L):=by
 have hb:=am3 h
 have hn:∀o∈aaU ms,0<=o:=fun o ho=>(hb o ho).1
 refine⟨fun r hr=>?_,fun r hr x j h1 h2=>?_,fun x j hbt=>?_⟩
 ·obtain⟨m,hm,rfl⟩:=List.mem_map.mp hr
  obtain⟨h1,_⟩:=(hL.2 m).mp hm
  obtain⟨i,hi,e⟩:=ak2 h1
  refine⟨⟨amE hn hL hm,(hb m h1).2⟩,al4 (i:=i) (acY _ _) ((acE i).mpr ⟨hi,by rw[e];exact (aaY (hn m h1) (hn m h1)).mpr fun _ z=>z⟩),?_⟩
  show adW m (aaU ms)<2^60
  have:=ah1 (fun i=>decide (sub m (gd (aaU ms) i))) (aaU ms).length
  rw[ab3] at this
  unfold adW
  rw[ab3]
  exact this
 ·obtain⟨m,hm,rfl⟩:=List.mem_map.mp hr
  obtain⟨h3,_⟩:=(hL.2 m).mp hm
  obtain⟨h4,h5⟩:=(acE j).mp h2
  rw[ab3] at h4
  rw[ajU h4] at h5
  have this:tb (col ms j) x=true:=(aaY (hn m h3) (acY _ _)).mp h5 x h1
  rw[amR h] at this
  exact this
 ·have hj:=(h.hr hbt).2
  have hmem:col ms j∈aaU ms:=List.mem_map.mpr ⟨j,List.mem_range.mpr hj,rfl⟩
  obtain⟨k,k1,k2,k3,k4⟩:=aoK hn _ (col ms j) (Nat.le_refl _) hmem x (by rw[amR h];exact hbt)
  exact⟨_,List.mem_map.mpr ⟨k,(hL.2 k).mpr ⟨k1,k2⟩,rfl⟩,k4,(acE j).mpr ⟨by rw[ab3];exact hj,by rw[ajU hj];exact k3⟩⟩
def abA(ms:List Int)(p q:Nat×Nat):Bool:=tb (gd ms p.1) q.2&&tb (gd ms q.1) p.2
structure PairsOk(ms:List Int)(prs:List (Nat×Nat)):Prop where
 inn:∀p∈prs,tb (gd ms p.1) p.2=true
 apart:prs.Pairwise fun p q=>abA ms q p=false
 max:∀h j,tb (gd ms h) j=true->∃p∈prs,abA ms (h,j) p=true
theorem amK{ms:List Int}{rows:List (Int×Int)}{prs:List (Nat×Nat)}(hr:RowsOk ms rows)(hp:PairsOk ms prs):prs.length<=rows.length:=by
 have ex:∀p:Nat×Nat,∃i:Nat,p∈prs->∃r:Int×Int,rows[i]? =some r/\tb r.1 p.1=true/\tb r.2 p.2=true:=fun p=>by
  cases Classical.em (p∈prs) with
  |inl hm=>
   obtain⟨r,hr1,h1,h2⟩:=hr.cov p.1 p.2 (hp.inn p hm)
   obtain⟨i,hi⟩:=List.mem_iff_getElem?.mp hr1
   exact⟨i,fun _=>⟨r,hi,h1,h2⟩⟩
  |inr hm=>exact⟨0,fun h=>absurd h hm⟩
 obtain⟨f,hf⟩:=Classical.axiomOfChoice ex
 have hnd:(prs.map f).Nodup:=by
  have key:∀l:List (Nat×Nat),(∀p∈l,p∈prs)->l.Pairwise (fun p q=>abA ms q p=false)->(l.map f).Nodup:=by
   intro l
   induction l with
   |nil=>intro _ _;exact List.nodup_nil
   |cons p l ih=>
    intro hm hpw
    have hpw:=List.pairwise_cons.mp hpw
    rw[List.map_cons,List.nodup_cons]
    refine⟨fun hc=>?_,ih (fun q hq=>hm q (List.mem_cons_of_mem _ hq)) hpw.2⟩
    obtain⟨q,hq,e⟩:=List.mem_map.mp hc
    obtain⟨r,r1,r2,r3⟩:=hf p (hm p (by simp))
    obtain⟨r',s1,s2,s3⟩:=hf q (hm q (List.mem_cons_of_mem _ hq))
    rw[e,r1] at s1
    cases s1
    have hmr:=List.mem_of_getElem? r1
    have z:=hpw.1 q hq
    unfold abA at z
    rw[hr.rect r hmr q.1 p.2 s2 r3,hr.rect r hmr p.1 q.2 r2 s3] at z
    cases z
  exact key prs (fun _ h=>h) hp.apart
 have:=aa4 (ys:=List.range rows.length) hnd fun i hi=>by
  obtain⟨p,hpm,rfl⟩:=List.mem_map.mp hi
  obtain⟨r,r1,_⟩:=hf p hpm
  exact List.mem_range.mpr (List.getElem?_eq_some_iff.mp r1).1
 rw[List.length_map,List.length_range] at this
 exact this
def gr(ms:List Int):List (Nat×Nat)->List (Nat×Nat)->List (Nat×Nat)
 |acc,[]=>acc
 |acc,c::cs=>gr ms (if acc.any (abA ms c)=true then acc else acc++[c]) cs
theorem ajE(ms:List Int):∀(cs:List (Nat×Nat)) (acc:List (Nat×Nat)) (c:Nat×Nat),gr ms acc (cs++[c])=(if (gr ms acc cs).any (abA ms c)=true then gr ms acc cs else gr ms acc cs++[c])
 |[],acc,c=>rfl
 |d::cs,acc,c=>ajE ms cs _ c
theorem agL(ms:List Int):∀(cs acc:List (Nat×Nat)),∀p∈acc,p∈gr ms acc cs
 |[],_,_,h=>h
 |c::cs,acc,p,h=>agL ms cs _ p (by split;exact h;exact List.mem_append_left _ h)
theorem aiJ(ms:List Int):∀(cs acc:List (Nat×Nat)),∀p∈gr ms acc cs,p∈acc∨p∈cs
 |[],_,_,h=>.inl h
 |c::cs,acc,p,h=>by
  rcases aiJ ms cs _ p h with z | z
  ·split at z
   ·exact .inl z
   ·rcases List.mem_append.mp z with y | y
    ·exact .inl y
    ·exact .inr (by rw[List.mem_singleton.mp y];simp)
  ·exact .inr (List.mem_cons_of_mem _ z)
theorem ahJ(ms:List Int):∀(cs acc:List (Nat×Nat)),acc.Pairwise (fun p q=>abA ms q p=false)->(gr ms acc cs).Pairwise fun p q=>abA ms q p=false
 |[],_,h=>h
 |c::cs,acc,h=>by
  refine ahJ ms cs _ ?_
  split
  ·exact h
  ·rename_i hc
   refine List.pairwise_append.mpr ⟨h,List.pairwise_singleton _ _,fun p hp q hq=>?_⟩
   rw[List.mem_singleton.mp hq]
   have:=List.any_eq_false.mp (Bool.eq_false_iff.mpr hc) p hp
   simpa using this
theorem amG(ms:List Int):∀(cs acc:List (Nat×Nat)),∀c∈cs,tb (gd ms c.1) c.2=true->∃p∈gr ms acc cs,abA ms c p=true
 |d::cs,acc,c,h,hb=>by
  rcases List.mem_cons.mp h with rfl | h
  ·by_cases z:acc.any (abA ms c)=true
   ·obtain⟨p,hp,hf⟩:=List.any_eq_true.mp z
    refine⟨p,agL ms cs _ p (by rw[if_pos z];exact hp),hf⟩
   ·exact⟨c,agL ms cs _ c (by rw[if_neg z];simp),by unfold abA;rw[hb];rfl⟩
  ·exact amG ms cs _ c h hb
theorem aiA(ms:List Int):∀(os acc cs:List (Nat×Nat)),(acc++os).Pairwise (fun p q=>abA ms q p=false)->gr ms acc (os++cs)=gr ms (acc++os) cs
 |[],acc,cs,_=>by rw[List.append_nil,List.nil_append]
 |o::os,acc,cs,h=>by
  have hno:acc.any (abA ms o)=false:=List.any_eq_false.mpr fun p hp=>by
   have:=(List.pairwise_append.mp h).2.2 p hp o (by simp)
   rw[this]
   exact Bool.false_ne_true
  have e:acc++o::os=(acc++[o])++os:=by simp
  rw[e] at h ⊢
  show gr ms (if acc.any (abA ms o)=true then acc else acc++[o]) (os++cs)=_
  rw[hno,if_neg (by decide)]
  exact aiA ms os (acc++[o]) cs h
theorem alW(ms:List Int):∀(cs acc:List (Nat×Nat)),acc.length<=(gr ms acc cs).length
 |[],_=>Nat.le_refl _
 |c::cs,acc=>by
  refine Nat.le_trans ?_ (alW ms cs _)
  split
  ·exact Nat.le_refl _
  ·rw[List.length_append];omega
def abX(ms:List Int)(n:Nat):List (Nat×Nat):=((List.range n).map fun h=>(flt (tb (gd ms h)) 0 60).map fun z=>(h,z.toNat)).flatten
theorem all_mem{ms:List Int}{n h j:Nat}:(h,j)∈abX ms n↔h<n/\j<60/\tb (gd ms h) j=true:=by
 unfold abX
 rw[List.mem_flatten]
 constructor
 ·rintro⟨l,hl,hm⟩
  obtain⟨x,hx,rfl⟩:=List.mem_map.mp hl
  obtain⟨z,hz,e⟩:=List.mem_map.mp hm
  obtain⟨i,hi,hb,rfl⟩:=flt_mem.mp hz
  cases e
  have e0:(0+(i:Int)).toNat=i:=by omega
  rw[e0]
  exact⟨List.mem_range.mp hx,hi,hb⟩
 ·rintro⟨h1,h2,h3⟩
  exact⟨_,List.mem_map.mpr ⟨h,List.mem_range.mpr h1,rfl⟩,List.mem_map.mpr ⟨(0+(j:Int)),flt_mem.mpr ⟨j,h2,h3,rfl⟩,by congr 1;omega⟩⟩
theorem ak4{ms:List Int}(h:MsOk ms){os:List (Nat×Nat)}(ho:∀p∈os,tb (gd ms p.1) p.2=true):PairsOk ms (gr ms [] (os++abX ms 24)):=by
 refine⟨fun p hp=>?_,ahJ ms _ _ List.Pairwise.nil,fun x j hb=>?_⟩
 ·rcases aiJ ms _ _ p hp with z | z
  ·cases z
  ·rcases List.mem_append.mp z with y | y
   ·exact ho p y
   ·obtain⟨a,b⟩:=p
    exact (all_mem.mp y).2.2
 ·obtain⟨h1,h2⟩:=h.hr hb
  exact amG ms _ _ (x,j) (List.mem_append_right _ (all_mem.mpr ⟨h1,h2,hb⟩)) hb
end KF
namespace KF
open PySem PySem.Spec PyProof.Rows L2
theorem arR{m:Int}(h:0<=m)(k:Nat):decide (V.int (Builtin.bitAnd (m / 2^k) 1)=V.int 1)=tb m k:=by
 rw[←ajS h]
 exact decide_eq_decide.mpr int_eq
theorem ao4{m:Int}(h:0<=m)(k:Nat):decide (V.int (Builtin.bitAnd (m / 2^k) 1)=V.int 0)= !tb m k:=by
 have hx:0<=m / 2^k:=Int.ediv_nonneg h (Int.le_of_lt (abI k))
 have e:Builtin.bitAnd (m / 2^k) 1=(m / 2^k)%2:=by
  rw[bitAnd_pp hx (by decide)]
  show (((m / 2^k).toNat&&& 1:Nat):Int)=_
  rw[Nat.and_one_is_mod]
  omega
 rw[←arR h k,e]
 have hor:(m / 2^k)%2=0∨(m / 2^k)%2=1:=by omega
 rcases hor with z | z<;>rw[z]<;>decide
theorem alE{cs:List Int}{k:Nat}{v:Int}(h:k<cs.length)(i:Nat):gd (cs.set k v) i=if i=k then v else gd cs i:=by
 unfold gd
 rw[List.getD_eq_getElem?_getD,List.getD_eq_getElem?_getD]
 by_cases c:i=k
 ·subst c
  rw[if_pos rfl,List.getElem?_set_self h]
  rfl
 ·rw[if_neg c,List.getElem?_set_ne (fun e=>c e.symm)]
def akB(r:Int×Int)(h j:Nat):Bool:=tb r.1 h&&tb r.2 j
structure ComeOk(cs:List Int)(rows:List (Int×Int))(r:Int×Int)(k:Nat):Prop where
 len:cs.length=24
 nn:∀h,0<=gd cs h
 at_:∀h,h<24->∀j,tb (gd cs h) j=(rows.any (fun r=>akB r h j)||(decide (h<k)&&akB r h j))
theorem aq5:ComeOk (List.replicate 24 0) [] (0,0) 0:=by
 have g:∀h,gd (List.replicate 24 0) h=0:=fun h=>by
  by_cases c:h<24
  ·exact aa2 (by rw[List.getElem?_replicate,if_pos c])
  ·exact aeB (by rw[List.length_replicate];omega)
 refine⟨List.length_replicate ..,fun h=>by rw[g];exact Int.le_refl 0,fun h _ j=>?_⟩
 rw[g,aaN]
 rfl
theorem anV{cs:List Int}{rows:List (Int×Int)}{r r':Int×Int}(h:ComeOk cs rows r 0):ComeOk cs rows r' 0:=⟨h.len,h.nn,fun x hx j=>by
 rw[h.at_ x hx j,decide_eq_false (Nat.not_lt_zero x),Bool.false_and,Bool.false_and]⟩
theorem al0{cs:List Int}{rows:List (Int×Int)}{r:Int×Int}(h:ComeOk cs rows r 24):ComeOk cs (rows++[r]) r 0:=⟨h.len,h.nn,fun x hx j=>by
 rw[h.at_ x hx j,decide_eq_true hx,decide_eq_false (Nat.not_lt_zero x),List.any_append]
 simp⟩
theorem amA{cs:List Int}{rows:List (Int×Int)}{r:Int×Int}{k:Nat}(hr:0<=r.2)(hk:k<24)(hb:tb r.1 k=true)(h:ComeOk cs rows r k):ComeOk (cs.set k (Builtin.bitOr (gd cs k) r.2)) rows r (k+1):=by
 have hk':k<cs.length:=by rw[h.len];exact hk
 refine⟨by rw[List.length_set];exact h.len,fun x=>?_,fun x hx j=>?_⟩
 ·rw[alE hk']
  split
  ·exact aeU (h.nn k) hr
  ·exact h.nn x
 ·rw[alE hk']
  by_cases c:x=k
  ·subst c
   rw[if_pos rfl,ahA (h.nn x) hr,h.at_ x hx j,decide_eq_false (Nat.lt_irrefl x),decide_eq_true (Nat.lt_succ_self x)]
   unfold akB
   rw[hb]
   simp
  ·rw[if_neg c,h.at_ x hx j]
   have:decide (x<k+1)=decide (x<k):=decide_eq_decide.mpr (by omega)
   rw[this]
theorem anH{cs:List Int}{rows:List (Int×Int)}{r:Int×Int}{k:Nat}(hb:tb r.1 k=false)(h:ComeOk cs rows r k):ComeOk cs rows r (k+1):=⟨h.len,h.nn,fun x hx j=>by
 rw[h.at_ x hx j]
 by_cases c:x=k
 ·subst c
  unfold akB
  rw[hb]
  simp
 ·have:decide (x<k+1)=decide (x<k):=decide_eq_decide.mpr (by omega)
  rw[this]⟩
theorem akW{ms cs:List Int}{rows:List (Int×Int)}{r:Int×Int}(hM:MsOk ms)(hr:RowsOk ms rows)(h:ComeOk cs rows r 0):cs=ms:=by
 refine List.ext_getElem (by rw[h.len,hM.len]) fun i h1 h2=>?_
 have hi:i<24:=by rw[←h.len];exact h1
 have e:gd cs i=gd ms i:=aaS (h.nn i) (hM.nn i).1 fun j=>by
  rw[h.at_ i hi j,decide_eq_false (Nat.not_lt_zero i),Bool.false_and,Bool.or_false]
  cases e:tb (gd ms i) j with
  |true=>
   obtain⟨r,hr1,a,b⟩:=hr.cov i j e
   exact List.any_eq_true.mpr ⟨r,hr1,by unfold akB;rw[a,b];rfl⟩
  |false=>
   refine List.any_eq_false.mpr fun r hr1 hh=>?_
   unfold akB at hh
   rw[Bool.and_eq_true] at hh
   rw[hr.rect r hr1 i j hh.1 hh.2] at e
   cases e
 rw[aa2 (List.getElem?_eq_getElem h1),aa2 (List.getElem?_eq_getElem h2)] at e
 exact e
theorem am0(xs:List V){k:Nat}(h:k<=xs.length):acI xs none (some (0+(k:Int)))=xs.take k:=by
 unfold acI
 rw[Int.zero_add,HT.sIx_nat,HT.sIx_none,List.drop_zero,Nat.sub_zero,Nat.min_eq_left h]
theorem inF(l:List Bool):inV (.bl false) (l.map V.bl)=l.any (fun b=> !b):=by
 unfold inV
 rw[List.any_map]
 congr 1
 funext b
 cases b<;>rfl
theorem arT(l:List Bool):(l.map V.bl).all ac7=true:=by
 rw[List.all_map]
 exact List.all_eq_true.mpr fun b _=>rfl
theorem ad3{ds ss:List Int}(h:Digs ds ss){i:Nat}{z:Int}(e:ss[i]? =some z):∃d,ds[i]? =some d/\0<=d/\d<z:=by
 have hi:=(List.getElem?_eq_some_iff.mp e).1
 have hi':i<ds.length:=by rw[h.len];exact hi
 obtain⟨z',ez,hz⟩:=KM.Paired.at h (List.getElem?_eq_getElem hi')
 rw[e] at ez
 cases ez
 exact⟨_,List.getElem?_eq_getElem hi',hz⟩
end KF
namespace KF
open PySem PySem.Spec PyProof.Rows L2
section
variable{X:Cx}{x:Str}{e:Expr}{es:List Expr}{tA:TA}{p pos:Pos}
theorem eDs{k:Nat}{ps:List Str}{sp:Sp}(D:Df X.prog X.w X.K X.mg X.base x k ps sp)(hr:Room k X.A)(ha:As X (e::es) tA)(hg:Gl X x:=by rfl)
  (hdb:(x==("__debug__":Str))=false:=by decide) (he:starEach (e::es) X.env=(false,eval e X.env)::starEach es X.env:=by rfl) (hpl:(backTo pos (starEach es X.env)).any (·.1)=false:=by rfl):
  E X (.Call (.Name x p) (e::es) [] pos) (ai0 sp [] E0 tA):=eD D hr ha (Nat.le_refl _) hg hdb he hpl
end
def Lam(ms:List Int):Prop:=∀m∈ms,∀o∈ms,sub m o∨sub o m∨∀i,tb m i=true->tb o i=false
def LsT(K:PySem.W.Frag)(H:Hp)(ts:List Addr)(yss:List (List Int)):Prop:=Paired (fun (t:Addr) (ys:List Int)=>SqL K H t (ys.map V.int)) ts yss
theorem acB{K:PySem.W.Frag}{H H':Hp}(s:Same H H'){ts:List Addr}{yss:List (List Int)}(h:LsT K H ts yss):LsT K H' ts yss:=Paired.mapP h fun _ _ z=>s.seq z
theorem ad5{K:PySem.W.Frag}{H:Hp}:∀{ts us:List Addr} {ps qs:List (List Int)},LsT K H ts ps->LsT K H us qs->LsT K H (ts++us) (ps++qs)
 |_,_,_,_,.nil,h=>h
 |_,_,_,_,.cons r t,h=>.cons r (ad5 t h)
def al1(ys zs:List Int):Prop:=(∀x∈ys,x∈zs)∨(∀x∈zs,x∈ys)∨∀x∈ys,x∉zs
def aoH(ys:List Int):Bool:=decide (0<ys.length)
structure Fam(xs:List Int)(yss:List (List Int))(n:Nat):Prop where
 sub:∀ys∈yss,ys.Sublist xs
 lam:∀ys∈yss,∀zs∈yss,al1 ys zs
 len:yss.length<=n
theorem Fam.flt{xs:List Int}{yss:List (List Int)}{n:Nat}(h:Fam xs yss n):Fam xs (yss.filter aoH) n:=
 ⟨fun ys hy=>h.sub ys (List.mem_filter.mp hy).1,fun ys hy zs hz=>h.lam ys (List.mem_filter.mp hy).1 zs (List.mem_filter.mp hz).1,Nat.le_trans (List.length_filter_le _ _) h.len⟩
theorem aeD(xs:List Int):Fam xs [xs] 1:=⟨fun ys hy=>by rw[List.mem_singleton.mp hy];exact List.Sublist.refl _,fun ys hy zs hz=>by rw[List.mem_singleton.mp hy,List.mem_singleton.mp hz];exact .inl fun _ h=>h,Nat.le_refl _⟩
theorem amL{xs:List Int}{as bs:List (List Int)}{n c d:Nat}(hx:xs.Nodup)(hcd:c<=d)(ha:Fam (xs.take c) as n)(hb:Fam (xs.drop d) bs n):Fam xs (([xs]++as)++bs) (2*n+1):=by
 have sa:∀ys∈as,ys.Sublist xs:=fun ys hy=>(ha.sub ys hy).trans (List.take_sublist _ _)
 have sb:∀ys∈bs,ys.Sublist xs:=fun ys hy=>(hb.sub ys hy).trans (List.drop_sublist _ _)
 have dis:∀ys∈as,∀zs∈bs,∀x∈ys,x∉zs:=fun ys hy zs hz x h1 h2=>by
  have m1:=(ha.sub ys hy).subset h1
  have m2:=(hb.sub zs hz).subset h2
  obtain⟨i,hi,e1⟩:=List.getElem_of_mem m1
  obtain⟨j,hj,e2⟩:=List.getElem_of_mem m2
  rw[List.getElem_take] at e1
  rw[List.getElem_drop] at e2
  have hi':i<xs.length:=by rw[List.length_take] at hi;omega
  have hj':d+j<xs.length:=by rw[List.length_drop] at hj;omega
  have hic:i<c:=by rw[List.length_take] at hi;omega
  have:=(List.getElem_inj (h₀:=hi') (h₁:=hj') hx).mp (e1.trans e2.symm)
  omega
 have cs:∀ys,ys∈([xs]++as)++bs->ys=xs∨ys∈as∨ys∈bs:=fun ys h=>by
  rcases List.mem_append.mp h with h | h
  ·rcases List.mem_append.mp h with h | h
   ·exact .inl (List.mem_singleton.mp h)
   ·exact .inr (.inl h)
  ·exact .inr (.inr h)
 have sx:∀ys,ys∈([xs]++as)++bs->ys.Sublist xs:=fun ys h=>by
  rcases cs ys h with rfl | h | h
  ·exact List.Sublist.refl _
  ·exact sa ys h
  ·exact sb ys h
 refine⟨sx,fun ys hy zs hz=>?_,?_⟩
 ·rcases cs ys hy with rfl | h1 | h1
  ·exact .inr (.inl fun x h=>(sx zs hz).subset h)
  ·rcases cs zs hz with rfl | h2 | h2
   ·exact .inl fun x h=>(sa ys h1).subset h
   ·exact ha.lam ys h1 zs h2
   ·exact .inr (.inr (dis ys h1 zs h2))
  ·rcases cs zs hz with rfl | h2 | h2
   ·exact .inl fun x h=>(sb ys h1).subset h
   ·exact .inr (.inr fun x hx hz'=>dis zs h2 ys h1 x hz' hx)
   ·exact hb.lam ys h1 zs h2
 ·rw[List.length_append,List.length_append,List.length_singleton]
  have:=ha.len
  have:=hb.len
  omega
theorem ah7(xs:List V)(k:Nat):acI xs (some (k:Int)) none=xs.drop k:=by
 unfold acI
 rw[HT.sIx_nat,HT.sIx_none]
 by_cases h:k<=xs.length
 ·rw[Nat.min_eq_left h]
  exact List.take_of_length_le (by rw[List.length_drop];omega)
 ·rw[Nat.min_eq_right (by omega),List.drop_of_length_le (Nat.le_refl _),List.drop_of_length_le (by omega)]
  exact List.take_nil
theorem anX(xs:List V){k:Nat}(h:k<=xs.length):acI xs none (some (k:Int))=xs.take k:=by
 have:=am0 xs h
 rw[Int.zero_add] at this
 exact this
theorem amM:∀{zs:List Int},zs.Nodup->(∀z∈zs,0<=z)->(zs.map fun d=>(1*2^d.toNat:Int)).sum=aaI zs:=by
 intro zs
 induction zs with
 |nil=>intro _ _;rfl
 |cons z zs ih=>
  intro hn h0
  have hn':=List.nodup_cons.mp hn
  have ih:=ih hn'.2 fun y hy=>h0 y (List.mem_cons_of_mem _ hy)
  rw[List.map_cons,List.sum_cons,ih]
  refine agG (by have:=abI z.toNat;omega) (aaM _) (aaM _) (fun i=>?_) (fun i=>?_)
  ·rw[Int.one_mul,adI,aaQ]
   by_cases c:z.toNat=i
   ·rw[decide_eq_true c,Bool.true_and,List.any_eq_false]
    intro y hy hh
    have hyi:y.toNat=i:=by simpa using hh
    have:=h0 y (List.mem_cons_of_mem _ hy)
    have:=h0 z (by simp)
    have:y=z:=by omega
    exact hn'.1 (this▸hy)
   ·rw[decide_eq_false c,Bool.false_and]
  ·rw[Int.one_mul,adI,aaQ,aaQ,List.any_cons]
theorem aqH{ys zs:List Int}(hy:∀z∈ys,0<=z)(hz:∀z∈zs,0<=z)(h:al1 ys zs):sub (aaI ys) (aaI zs)∨sub (aaI zs) (aaI ys)∨∀i,tb (aaI ys) i=true->tb (aaI zs) i=false:=by
 have up:∀{as bs:List Int},(∀x∈as,x∈bs)->sub (aaI as) (aaI bs):=fun hs=>(aaY (aaM _) (aaM _)).mpr fun i hi=>by
  rw[aaQ] at hi ⊢
  obtain⟨x,hx,hd⟩:=List.any_eq_true.mp hi
  exact List.any_eq_true.mpr ⟨x,hs x hx,hd⟩
 rcases h with h | h | h
 ·exact .inl (up h)
 ·exact .inr (.inl (up h))
 ·refine .inr (.inr fun i hi=>?_)
  rw[aaQ] at hi ⊢
  obtain⟨x,hx,hd⟩:=List.any_eq_true.mp hi
  refine List.any_eq_false.mpr fun y hy' hh=>?_
  have e1:x.toNat=i:=by simpa using hd
  have e2:y.toNat=i:=by simpa using hh
  have:=hy x hx
  have:=hz y hy'
  have:x=y:=by omega
  exact h x hx (this▸hy')
theorem aqJ{yss:List (List Int)}{xs:List Int}{n:Nat}(h:Fam xs yss n)(hx:∀z∈xs,0<=z):Lam (yss.map aaI++[0]):=by
 have z0:∀o:Int,0<=o->sub 0 o:=fun o ho=>(aaY (Int.le_refl 0) ho).mpr fun i hi=>by rw[aaN] at hi;cases hi
 intro m hm o ho
 rcases List.mem_append.mp hm with hm | hm
 ·obtain⟨ys,hys,rfl⟩:=List.mem_map.mp hm
  rcases List.mem_append.mp ho with ho | ho
  ·obtain⟨zs,hzs,rfl⟩:=List.mem_map.mp ho
   exact aqH (fun z hz=>hx z ((h.sub ys hys).subset hz)) (fun z hz=>hx z ((h.sub zs hzs).subset hz)) (h.lam ys hys zs hzs)
  ·rw[List.mem_singleton.mp ho];exact .inr (.inl (z0 _ (aaM _)))
 ·rw[List.mem_singleton.mp hm]
  rcases List.mem_append.mp ho with ho | ho
  ·obtain⟨zs,hzs,rfl⟩:=List.mem_map.mp ho
   exact .inl (z0 _ (aaM _))
  ·rw[List.mem_singleton.mp ho];exact .inl (z0 _ (Int.le_refl 0))
theorem akJ{a s:Int}(hs:s=1∨s=7∨s=11∨s=13){i j:Nat}(hi:i<60)(hj:j<60)(e:(a+(0+(i:Int))*s)%60=(a+(0+(j:Int))*s)%60):i=j:=by
 rcases hs with rfl | rfl | rfl | rfl<;>omega
theorem ag6{a s:Int}(hs:s=1∨s=7∨s=11∨s=13){n:Nat}(hn:n<=60):((List.range n).map fun i:Nat=>(a+(0+(i:Int))*s)%60).Nodup:=by
 rw[List.nodup_iff_pairwise_ne,List.pairwise_map]
 exact List.Pairwise.imp_of_mem (fun {i j} hi hj h e=>by
  have:=akJ hs (by have:=List.mem_range.mp hi;omega) (by have:=List.mem_range.mp hj;omega) e
  exact h this) (List.nodup_iff_pairwise_ne.mp List.nodup_range)
end KF
namespace KF
open PySem PySem.Spec PyProof.Rows L2
theorem asX{X:Cx}{K:PySem.W.Frag}(hc:X.calm=true:=by rfl)(hK:X.K=K:=by rfl):Cl1 X (.builtin "sum") (fun xs H Q=>∃(p:Addr) (is:List Int),xs=[.ref p]/\SqL K H p (is.map V.int)/\Q (.int is.sum) H):=hK▸asF hc
end KF
namespace K48
open PySem PySem.Spec PyProof.Rows L2 KF
def top(i:Nat):Stmt:=PySem.Challenge.pw_fivefields_k48_whole_nested_times.main.body.getD i (.Pass ⟨0,0,0,0⟩)
abbrev aoY:Stmt:=top 1
abbrev af8:Stmt:=top 4
abbrev adA:Stmt:=top 5
abbrev ahR:Stmt:=top 2
abbrev acP:Stmt:=top 9
abbrev ab0:Stmt:=top 10
abbrev acN:Stmt:=top 11
abbrev acK:Stmt:=top 12
abbrev aeM:Stmt:=top 13
abbrev abT:Stmt:=top 14
abbrev ac2:Stmt:=top 15
abbrev aeQ:Stmt:=top 16
abbrev ac8:Stmt:=top 17
abbrev acL:Stmt:=top 18
abbrev acJ:Stmt:=top 19
abbrev ad8:Stmt:=top 20
abbrev ab4:Stmt:=top 22
abbrev adR:Stmt:=top 23
abbrev acQ:Stmt:=top 24
abbrev ac6:Stmt:=top 26
abbrev ac3:Stmt:=top 27
abbrev adO:Stmt:=top 28
abbrev afR:Stmt:=top 29
theorem akI{α:Type}(p:α->Bool)(x:α):[x].filter p=if p x=true then [x] else []:=by rw[List.filter_cons];rfl
def hmT(T:Int)(h:Nat):Int:=Builtin.bitAnd (T / 2^(60*(0+(h:Int))).toNat) (1*2^(60:Int).toNat-1)
def tmT:List Int->Int
 |[]=>0
 |m::ms=>m+2^60*tmT ms
theorem aoV:∀{ms:List Int},(∀m∈ms,0<=m/\m<2^60)->0<=tmT ms
 |[],_=>Int.le_refl 0
 |m::ms,h=>by
  have h1:=h m (by simp)
  have h2:=aoV (ms:=ms) fun z hz=>h z (List.mem_cons_of_mem _ hz)
  show 0<=m+2^60*tmT ms
  have:=Int.mul_nonneg (a:=2^60) (by decide) h2
  omega
theorem amV:∀{ms:List Int} (h:Nat),(∀m∈ms,0<=m/\m<2^60)->tmT ms / 2^(60*h)=tmT (ms.drop h)
 |ms,0,_=>by rw[Nat.mul_zero,List.drop_zero];exact Int.ediv_one _
 |[],h+1,_=>by show (0:Int) / _=0;exact Int.zero_ediv _
 |m::ms,h+1,hb=>by
  have h1:=hb m (by simp)
  have e:(2:Int)^(60*(h+1))=2^60*2^(60*h):=by rw[show 60*(h+1)=60+60*h by omega,Int.pow_add]
  rw[List.drop_succ_cons,←amV h fun z hz=>hb z (List.mem_cons_of_mem _ hz),e,←Int.ediv_ediv_of_nonneg (by decide)]
  congr 1
  show (m+2^60*tmT ms) / 2^60=tmT ms
  omega
theorem asC{x:Int}(h:0<=x):Builtin.bitAnd x (1*2^(60:Int).toNat-1)=x%2^60:=by
 have e:(1*2^(60:Int).toNat-1:Int)=2^60-1:=by decide
 rw[e,bitAnd_pp h (by decide)]
 have e2:((2:Int)^60-1).toNat=2^60-1:=by decide
 rw[e2,Nat.and_two_pow_sub_one_eq_mod]
 omega
theorem as6{ms:List Int}(hb:∀m∈ms,0<=m/\m<2^60)(h:Nat):hmT (tmT ms) h=gd ms h:=by
 unfold hmT
 have e:(60*(0+(h:Int))).toNat=60*h:=by omega
 have hd:∀m∈ms.drop h,0<=m/\m<2^60:=fun m hm=>hb m (List.mem_of_mem_drop hm)
 rw[e,amV h hb,asC (aoV hd)]
 cases c:ms[h]? with
 |none=>
  have:ms.drop h=[]:=List.drop_of_length_le (List.getElem?_eq_none_iff.mp c)
  rw[this,aeB (List.getElem?_eq_none_iff.mp c)]
  rfl
 |some m=>
  have e2:ms.drop h=m::ms.drop (h+1):=by
   obtain⟨hi,rfl⟩:=List.getElem?_eq_some_iff.mp c
   exact List.drop_eq_getElem_cons hi
  have b:=hb m (List.mem_of_getElem? c)
  rw[e2,aa2 c]
  show (m+2^60*tmT _)%2^60=m
  omega
theorem ajV:∀(L:List Int) (x:Int),tmT (L++[x])=tmT L+x*2^(60*L.length)
 |[],x=>by show x+2^60*0=0+x*1;omega
 |m::L,x=>by
  show m+2^60*tmT (L++[x])=m+2^60*tmT L+x*2^(60*(L.length+1))
  rw[ajV L x,show 60*(L.length+1)=60+60*L.length by omega,Int.pow_add,Int.mul_add,Int.mul_left_comm x]
  omega
theorem alJ{ms:List Int}:∀i,i<=ms.length->((List.range i).map fun h=>gd ms h*2^(60*h)).sum=tmT (ms.take i)
 |0,_=>rfl
 |i+1,h=>by
  have hi:i<ms.length:=by omega
  rw[List.range_succ,List.map_append,List.sum_append,alJ i (by omega),List.take_succ,List.getElem?_eq_getElem hi]
  show _=tmT (ms.take i++[ms[i]])
  rw[ajV,List.length_take,Nat.min_eq_left (by omega)]
  show tmT (ms.take i)+(gd ms i*2^(60*i)+0)=_
  rw[aa2 (List.getElem?_eq_getElem hi)]
  omega
theorem al2{ms:List Int}{n:Nat}(h:ms.length=n):(List.range n).map (gd ms)=ms:=by
 refine List.ext_getElem? fun i=>?_
 rw[List.getElem?_map]
 by_cases c:i<n
 ·rw[List.getElem?_range c]
  have hi:i<ms.length:=by omega
  rw[List.getElem?_eq_getElem hi]
  exact congrArg some (aa2 (List.getElem?_eq_getElem hi))
 ·rw[List.getElem?_eq_none (by rw[List.length_range];omega),List.getElem?_eq_none (by omega)]
  rfl
def acU(ms:List Int)(m:Int)(p:Nat×Nat):Prop:=ms[p.1]? =some m/\tb m p.2=true/\tb (aaP m ms) p.2=false
theorem al6{ms:List Int}:∀{L:List Int} {os:List (Nat×Nat)},Paired (acU ms) L os->∀p∈os,tb (gd ms p.1) p.2=true
 |_,_,.nil,p,h=>nomatch h
 |_,_,.cons r t,p,h=>by
  rcases List.mem_cons.mp h with rfl | h
  ·rw[aa2 r.1];exact r.2.1
  ·exact al6 t p h
theorem aeN{H:Hp}:∀{ts us:List Addr} {ps qs:List (Nat×Nat)},KM.PrT H ts ps->KM.PrT H us qs->KM.PrT H (ts++us) (ps++qs)
 |_,_,_,_,.nil,h=>h
 |_,_,_,_,.cons r t,h=>.cons r (aeN t h)
theorem agF{H:Hp}:∀{ts us:List Addr} {ps qs:List (Int×Int)},acX H ts ps->acX H us qs->acX H (ts++us) (ps++qs)
 |_,_,_,_,.nil,h=>h
 |_,_,_,_,.cons r t,h=>.cons r (agF t h)
theorem abL{H H':Hp}(k:Keep H H'){ts:List Addr}{ps:List (Int×Int)}(h:acX H ts ps):acX H' ts ps:=Paired.mapP h fun _ _ z=>k.tup z
theorem akY{ms:List Int}{m:Int}(h:m∈ms):∃i:Nat,ms[i]? =some m/\∀k:Nat,k<i->ms[k]? ≠some m:=by
 obtain⟨i,hi,e⟩:=List.getElem_of_mem h
 have key:∀(n i:Nat),i<=n->ms[i]? =some m->∃k:Nat,ms[k]? =some m/\∀j:Nat,j<k->ms[j]? ≠some m:=by
  intro n
  induction n with
  |zero=>intro i hi h;exact⟨i,h,fun j hj=>by omega⟩
  |succ n ih=>
   intro i hi h
   cases Classical.em (∃j,j<i/\ms[j]? =some m) with
   |inl z=>obtain⟨j,hj,hb⟩:=z;exact ih j (by omega) hb
   |inr z=>exact⟨i,h,fun j hj e=>z ⟨j,hj,e⟩⟩
 exact key i i (Nat.le_refl _) (by rw[List.getElem?_eq_getElem hi,e])
theorem ajO{ms:List Int}:∀{L:List Int} {os:List (Nat×Nat)} {m:Int} {p:Nat×Nat},Paired (acU ms) L os->acU ms m p->Paired (acU ms) (L++[m]) (os++[p])
 |_,_,_,_,.nil,h=>.cons h .nil
 |_,_,_,_,.cons r t,h=>.cons r (ajO t h)
theorem ahI(ms:List Int)(n:Nat):abX ms (n+1)=abX ms n++(flt (tb (gd ms n)) 0 60).map fun z=>(n,z.toNat):=by
 unfold abX
 rw[List.range_succ,List.map_append,List.flatten_append]
 simp
theorem aiE(ms L:List Int)(m:Int):ae8 ms (L++[m])=ae8 ms L++[(adW m ms,m)]:=List.map_append
theorem aiV(ms L:List Int)(m:Int):aeW ms (L++[m])=aeW ms L++[(m,adW m ms)]:=List.map_append
theorem abK{L ms:List Int}(h:NM L ms)(hl:ms.length<=63):L.length<=63:=Nat.le_trans (aa4 (h.1.imp fun z=>by omega) fun x hx=>((h.2 x).mp hx).1) hl
theorem acM{ms:List Int}{i:Nat}(h:i<ms.length):atI (ms.map V.int) (i:Int)=some (.int (gd ms i)):=acH (by rw[List.getElem?_map,List.getElem?_eq_getElem h,aa2 (List.getElem?_eq_getElem h)];rfl)
theorem arD{ms L:List Int}{os:List (Nat×Nat)}(hM:MsOk ms)(h:Paired (acU ms) L os):∀c∈os++abX ms 24,c.1<ms.length:=fun c hc=>by
 rcases List.mem_append.mp hc with z | z
 ·have key:∀{L:List Int} {os:List (Nat×Nat)},Paired (acU ms) L os->∀c∈os,c.1<ms.length:=by
   intro L os h
   induction h with
   |nil=>intro c hc;cases hc
   |cons r _ ih=>
    intro c hc
    rcases List.mem_cons.mp hc with rfl | hc
    ·exact (List.getElem?_eq_some_iff.mp r.1).1
    ·exact ih c hc
  exact key h c z
 ·obtain⟨a,b⟩:=c
  rw[hM.len]
  exact (all_mem.mp z).1
theorem ai9(ms:List Int):∀n,(abX ms n).length<=60*n
 |0=>Nat.le_refl _
 |n+1=>by
  rw[ahI,List.length_append,List.length_map]
  have:=ai9 ms n
  have:=ag0 (tb (gd ms n)) 0 60
  omega
theorem aqI{ms L:List Int}{os:List (Nat×Nat)}(hM:MsOk ms)(hL:NM L ms)(h:Paired (acU ms) L os):(os++abX ms 24).length<=2000:=by
 have h1:=abK hL (by rw[hM.len];decide)
 have h2:=Paired.length h
 have h3:=ai9 ms 24
 rw[List.length_append]
 omega
structure Res(ms:List Int)(rows:List (Int×Int))(prs:List (Nat×Nat)):Prop where
 rok:RowsOk ms rows
 lenH:∀L,NM L ms->rows.length<=L.length
 lenM:∀L,NM L (aaU ms)->rows.length<=L.length
 pok:PairsOk ms prs
 own:∃L os,NM L ms/\Paired (acU ms) L os/\prs=gr ms [] (os++abX ms 24)
def arV(d:Nat)(K:PySem.W.Frag)(vs:List V)(H:Hp)(Q:VK):Prop:=∃(ca sa:Addr) (cs xs:List Int) (i:Nat),vs=[.ref ca,.ref sa,.int i,.int d]/\SqL K H ca (cs.map V.int)/\SqL K H sa (xs.map V.int)/\(cs.length=14/\∀c∈cs,0<=c)/\(xs.Nodup/\xs.length<=60)/\(i+2)*2^d<=16/\∀(p:Addr) (ts:List Addr) (yss:List (List Int)) (H':Hp),Same H H'->H' p=some (.lst (ts.map V.ref))->LsT K H' ts yss->Fam xs yss (2^(d+1)-1)->Q (.ref p) H'
def spr(d:Nat)(K:PySem.W.Frag):Sp:=fun vs H Q _=>arV d K vs H Q
abbrev S17b:List Int:=[60,4,60,60,2,60,2,60,2,60,2,60,2,60,2,60,2]
theorem ajN{ms:List Int}:∀{L:List Int} {os:List (Nat×Nat)},Paired (acU ms) L os->∀p∈os,∃m∈L,acU ms m p
 |_,_,.nil,p,h=>nomatch h
 |_,_,.cons r t,p,h=>by
  rcases List.mem_cons.mp h with rfl | h
  ·exact⟨_,by simp,r⟩
  ·obtain⟨m,hm,ho⟩:=ajN t p h
   exact⟨m,List.mem_cons_of_mem _ hm,ho⟩
theorem ahL{ms:List Int}(hn:∀o∈ms,0<=o)(hlam:Lam ms):∀{L:List Int} {os:List (Nat×Nat)},L.Pairwise (·<·)->Paired (acU ms) L os->os.Pairwise (fun p q=>abA ms q p=false)
 |_,_,_,.nil=>List.Pairwise.nil
 |m::L,p::os,hp,.cons r t=>by
  have hp':=List.pairwise_cons.mp hp
  refine List.pairwise_cons.mpr ⟨fun q hq=>?_,ahL hn hlam hp'.2 t⟩
  obtain⟨m',hm',r'⟩:=ajN t q hq
  have hlt:=hp'.1 m' hm'
  have i1:m∈ms:=List.mem_of_getElem? r.1
  have i2:m'∈ms:=List.mem_of_getElem? r'.1
  have g1:gd ms p.1=m:=aa2 r.1
  have g2:gd ms q.1=m':=aa2 r'.1
  unfold abA
  rw[g1,g2]
  cases e1:tb m' p.2 with
  |false=>rfl
  |true=>
   cases e2:tb m q.2 with
   |false=>rfl
   |true=>
    exfalso
    rcases hlam m i1 m' i2 with z | z | z
    ·have:=((abG (m:=m') hn).2 q.2).mpr ⟨m,i1,by omega,z,e2⟩
     rw[r'.2.2] at this
     cases this
    ·have:=((abG (m:=m) hn).2 p.2).mpr ⟨m',i2,by omega,z,e1⟩
     rw[r.2.2] at this
     cases this
    ·rw[z p.2 r.2.1] at e1
     cases e1
theorem ao7{ms:List Int}{rows:List (Int×Int)}{prs:List (Nat×Nat)}(hM:MsOk ms)(hlam:Lam ms)(h:Res ms rows prs):rows.length=prs.length:=by
 have h1:=amK h.rok h.pok
 obtain⟨L,os,hL,hos,e⟩:=h.own
 have h2:=h.lenH L hL
 have h3:L.length=os.length:=Paired.length hos
 have ap:=ahL (fun o ho=>(hM.bd o ho).1) hlam hL.1 hos
 have eg:=aiA ms os [] (abX ms 24) (by rw[List.nil_append];exact ap)
 rw[List.nil_append] at eg
 have h4:=alW ms (abX ms 24) os
 rw[e,eg] at h1 ⊢
 omega
theorem aoJ{ms ps:List Int}(h:Lam ps)(hs:∀m∈ms,m∈ps):Lam ms:=fun m hm o ho=>h m (hs m hm) o (hs o ho)
def aqF(K:PySem.W.Frag):Sp:=fun vs H Q _=>∃m n:Int,vs=[.int m,.int n]/\(0<=m/\0<=n)/\Q (.bl (tb m n.toNat)) H
def aiN(K:PySem.W.Frag):Sp:=fun vs H Q _=>∃(a:Addr) (zs:List Int),vs=[.ref a]/\SqL K H a (zs.map V.int)/\(∀z∈zs,0<=z/\z<=100000)/\Q (.int (aaI zs)) H
def afA(K:PySem.W.Frag):Sp:=fun vs H Q _=>∃m:Int,vs=[.int m]/\(0<=m/\Builtin.Int.intBits m<=100000)/\∀(p:Addr) (H':Hp),Same H H'->H' p=some (.lst ((agW m).map V.int))->Q (.ref p) H'
def akP(K:PySem.W.Frag):Sp:=fun vs H Q _=>∃(m:Int) (k:Nat),vs=[.int m]/\0<m/\tb m k=true/\(∀j,j<k->tb m j=false)/\Q (.int k) H
def aeO(K:PySem.W.Frag):Sp:=fun vs H Q _=>∃ms:List Int,vs=[.int (tmT ms)]/\MsOk ms/\∀(p:Addr) (H':Hp),Same H H'->H' p=some (.lst (ms.map V.int))->Q (.ref p) H'
def adX(K:PySem.W.Frag):Sp:=fun vs H Q _=>∃(a:Addr) (ms:List Int) (n:Nat),vs=[.ref a,.int n]/\SqL K H a (ms.map V.int)/\(∀m∈ms,0<=m)/\ms.length<=63/\n<=63/\∀(p:Addr) (H':Hp),Same H H'->H' p=some (.lst (((List.range n).map (col ms)).map V.int))->Q (.ref p) H'
def aeX(K:PySem.W.Frag):Sp:=fun vs H Q _=>∃m o:Int,vs=[.int m,.int o]/\Q (.bl (decide (sub m o))) H
def aeC(K:PySem.W.Frag):Sp:=fun vs H Q _=>∃(m:Int) (a:Addr) (ms:List Int),vs=[.int m,.ref a]/\SqL K H a (ms.map V.int)/\Q (.int (aaP m ms)) H
def ah3(K:PySem.W.Frag):Sp:=fun vs H Q _=>∃(a:Addr) (ms:List Int),vs=[.ref a]/\SqL K H a (ms.map V.int)/\ms.length<=63/\∀(p:Addr) (L:List Int) (H':Hp),Same H H'->NM L ms->H' p=some (.lst (L.map V.int))->Q (.ref p) H'
def adD(K:PySem.W.Frag):Sp:=fun vs H Q _=>∃(m:Int) (a:Addr) (ms:List Int),vs=[.int m,.ref a]/\SqL K H a (ms.map V.int)/\ms.length<=63/\∀H',Same H H'->Q (.int (adW m ms)) H'
def afE(K:PySem.W.Frag):Sp:=fun vs H Q _=>∃(a b:Addr) (ms bm:List Int),vs=[.ref a,.ref b]/\SqL K H a (ms.map V.int)/\SqL K H b (bm.map V.int)/\ms.length<=63/\bm.length<=63/\∀(p:Addr) (ts:List Addr) (rows:List (Int×Int)) (L L':List Int) (H':Hp),H p=none->Same H H'->H' p=some (.lst (ts.map V.ref))->acX H' ts rows->NM L ms->NM L' bm->(rows=ae8 ms L/\L.length<=L'.length∨rows=aeW bm L'/\L'.length<L.length)->Q (.ref p) H'
def ag5(K:PySem.W.Frag):Sp:=fun vs H Q _=>∃(m:Int) (a:Addr) (ms:List Int),vs=[.int m,.ref a]/\SqL K H a (ms.map V.int)/\(∀o∈ms,0<=o)/\m∈ms/\aaP m ms≠m/\∀(t:Addr) (c:Nat×Nat) (H':Hp),Same H H'->H' t=some (.tup [.int c.1,.int c.2])->acU ms m c->Q (.ref t) H'
def afM(K:PySem.W.Frag):Sp:=fun vs H Q _=>∃(a:Addr) (ms:List Int),vs=[.ref a]/\SqL K H a (ms.map V.int)/\MsOk ms/\∀(p:Addr) (ts:List Addr) (L:List Int) (os:List (Nat×Nat)) (H':Hp),Same H H'->NM L ms->Paired (acU ms) L os->H' p=some (.lst (ts.map V.ref))->KM.PrT H' ts (os++abX ms 24)->Q (.ref p) H'
def aeP(K:PySem.W.Frag):Sp:=fun vs H Q _=>∃(t u a:Addr) (c d:Nat×Nat) (ms:List Int),vs=[.ref t,.ref u,.ref a]/\H t=some (.tup [.int c.1,.int c.2])/\H u=some (.tup [.int d.1,.int d.2])/\SqL K H a (ms.map V.int)/\(∀m∈ms,0<=m)/\c.1<ms.length/\d.1<ms.length/\Q (.bl (abA ms c d)) H
def ae7(K:PySem.W.Frag):Sp:=fun vs H Q _=>∃(a:Addr) (ms:List Int),vs=[.ref a]/\SqL K H a (ms.map V.int)/\MsOk ms/\∀(p:Addr) (us:List Addr) (L:List Int) (os:List (Nat×Nat)) (H':Hp),H p=none->Same H H'->NM L ms->Paired (acU ms) L os->H' p=some (.lst (us.map V.ref))->KM.PrT H' us (gr ms [] (os++abX ms 24))->Q (.ref p) H'
def ahC(K:PySem.W.Frag):Sp:=fun vs H Q _=>∃ms:List Int,vs=[.int (tmT ms)]/\MsOk ms/\∀(t p p':Addr) (ts us:List Addr) (rows:List (Int×Int)) (prs:List (Nat×Nat)) (H':Hp),Same H H'->H p=none->H p'=none->p≠p'->H' t=some (.tup [.ref p,.ref p'])->H' p=some (.lst (ts.map V.ref))->acX H' ts rows->H' p'=some (.lst (us.map V.ref))->KM.PrT H' us prs->Res ms rows prs->Q (.ref t) H'
def adT(K:PySem.W.Frag):Sp:=fun vs H Q _=>∃(a:Addr) (k:Int),vs=[.ref a,.int k]/\(∃ns:List Int,SqL K H a (ns.map V.int))/\(0<=k/\k<1000)/\∀c:Int,Q (.int c) H
def agY(K:PySem.W.Frag):Sp:=fun vs H Q _=>∃n:Int,vs=[.int n]/\∀r:Int,0<=r->r<2147483629->Q (.int r) H
def aeJ(K:PySem.W.Frag):Sp:=fun vs H Q _=>∃(c:Int) (a:Addr) (b:Bool) (ss:List Int),vs=[.int c,.ref a,.bl b]/\SqL K H a (ss.map V.int)/\(∀z∈ss,0<z/\z<=1073741824)/\ss.length<=63/\∀(ds:List Int) (p:Addr) (H':Hp),Same H H'->H' p=some (.lst (ds.map V.int))->Digs ds ss->Q (.ref p) H'
def afO(K:PySem.W.Frag):Sp:=fun vs H Q _=>arV 3 K vs H Q
def afB(K:PySem.W.Frag):Sp:=fun vs H Q _=>∃(a:Addr) (b:Bool),vs=[.ref a,.bl b]/\(∃ns:List Int,SqL K H a (ns.map V.int))/\∀(p:Addr) (ms:List Int) (H':Hp),Same H H'->H' p=some (.lst (ms.map V.int))->MsOk ms->Lam ms->Q (.ref p) H'
def agD(K:PySem.W.Frag):Sp:=fun vs H Q _=>∃(a t u:Addr) (c d:Nat×Nat) (ms:List Int),vs=[.ref a,.ref t,.ref u]/\H t=some (.tup [.int c.1,.int c.2])/\H u=some (.tup [.int d.1,.int d.2])/\SqL K H a (ms.map V.int)/\(∀m∈ms,0<=m)/\c.1<ms.length/\d.1<ms.length/\Q (.bl (!abA ms c d)) H
def sp_law(K:PySem.W.Frag):Sp:=fun vs H Q _=>∃(a:Addr) (ns:List Int),vs=[.ref a]/\SqL K H a (ns.map V.int)/\ns.length<=63/\∀H',Q (.bl true) H'
theorem aq3:FnScope ["mask","number"] ["mask","number"] (aaC aoY):=⟨rfl,rfl,rfl,by decide +kernel,rfl,by decide +kernel,by decide +kernel⟩
theorem sc_mask_of:FnScope ["numbers","mask","number"] ["numbers"] (aaC af8):=⟨rfl,rfl,rfl,by decide +kernel,rfl,by decide +kernel,by decide +kernel⟩
theorem afK:FnScope ["mask"] ["mask"] (aaC adA):=⟨rfl,rfl,rfl,by decide +kernel,rfl,by decide +kernel,by decide +kernel⟩
theorem aj9:FnScope ["mask"] ["mask"] (aaC ahR):=⟨rfl,rfl,rfl,by decide +kernel,rfl,by decide +kernel,by decide +kernel⟩
theorem sc_hours_masks:FnScope ["times","whole_hour"] ["times"] (aaC acP):=⟨rfl,rfl,rfl,by decide +kernel,rfl,by decide +kernel,by decide +kernel⟩
theorem adS:FnScope ["masks","many"] ["masks","many"] (aaC ab0):=⟨rfl,rfl,rfl,by decide +kernel,rfl,by decide +kernel,by decide +kernel⟩
theorem ae3:FnScope ["mask","other"] ["mask","other"] (aaC acN):=⟨rfl,rfl,rfl,by decide +kernel,rfl,by decide +kernel,by decide +kernel⟩
theorem sc_made_within:FnScope ["mask","masks","together","other"] ["mask","masks"] (aaC acK):=⟨rfl,rfl,rfl,by decide +kernel,rfl,by decide +kernel,by decide +kernel⟩
theorem ag8:FnScope ["masks"] ["masks"] (aaC aeM):=⟨rfl,rfl,rfl,by decide +kernel,rfl,by decide +kernel,by decide +kernel⟩
theorem adJ:FnScope ["mask","masks"] ["mask","masks"] (aaC abT):=⟨rfl,rfl,rfl,by decide +kernel,rfl,by decide +kernel,by decide +kernel⟩
theorem sc_fewer_rows:FnScope ["by_hour","by_minute","of_hours","of_minutes"] ["by_hour","by_minute"] (aaC ac2):=⟨rfl,rfl,rfl,by decide +kernel,rfl,by decide +kernel,by decide +kernel⟩
theorem sc_own_pair:FnScope ["mask","by_hour","own"] ["mask","by_hour"] (aaC aeQ):=⟨rfl,rfl,rfl,by decide +kernel,rfl,by decide +kernel,by decide +kernel⟩
theorem sc_candidates:FnScope ["by_hour","pairs","hour","mask"] ["by_hour"] (aaC ac8):=⟨rfl,rfl,rfl,by decide +kernel,rfl,by decide +kernel,by decide +kernel⟩
theorem ae5:FnScope ["pair","other","by_hour"] ["pair","other","by_hour"] (aaC acL):=⟨rfl,rfl,rfl,by decide +kernel,rfl,by decide +kernel,by decide +kernel⟩
theorem sc_apart_pairs:FnScope ["by_hour","pairs","pair"] ["by_hour"] (aaC acJ):=⟨rfl,rfl,rfl,by decide +kernel,rfl,by decide +kernel,by decide +kernel⟩
theorem sc_rows_for:FnScope ["times","by_hour","by_minute"] ["times"] (aaC ad8):=⟨rfl,rfl,rfl,by decide +kernel,rfl,by decide +kernel,by decide +kernel⟩
theorem adV:FnScope ["_law_script","_law_k"] ["_law_script","_law_k"] (aaC ab4):=⟨rfl,rfl,rfl,by decide +kernel,rfl,by decide +kernel,by decide +kernel⟩
theorem sc__law_stir:FnScope ["_law_number","_law_first","_law_second"] ["_law_number"] (aaC adR):=⟨rfl,rfl,rfl,by decide +kernel,rfl,by decide +kernel,by decide +kernel⟩
theorem sc__law_digits:FnScope ["_law_cell","_law_sizes","_law_mixed","_law_found","_law_size"] ["_law_cell","_law_sizes","_law_mixed"] (aaC acQ):=⟨rfl,rfl,rfl,by decide +kernel,rfl,by decide +kernel,by decide +kernel⟩
theorem sc__law_parts:FnScope ["_law_cuts","_law_some","_law_at","_law_deep","_law_found","_law_cut","_law_spare"] ["_law_cuts","_law_some","_law_at","_law_deep"] (aaC ac6):=⟨rfl,rfl,rfl,by decide +kernel,rfl,by decide +kernel,by decide +kernel⟩
theorem sc__law_masks:FnScope ["_law_script","_law_mixed","_law_parts_here","_law_some","_law_pool"] ["_law_script","_law_mixed"] (aaC ac3):=⟨rfl,rfl,rfl,by decide +kernel,rfl,by decide +kernel,by decide +kernel⟩
theorem agA:FnScope ["_law_masks_here","_law_one","_law_other"] ["_law_masks_here","_law_one","_law_other"] (aaC adO):=⟨rfl,rfl,rfl,by decide +kernel,rfl,by decide +kernel,by decide +kernel⟩
theorem sc_law:FnScope ["_law_script","_law_mixed","_law_masks_here","_law_times","_law_rows","_law_pairs","_law_come","_law_hours","_law_minutes","_law_hour","_law_k"] ["_law_script"] (aaC afR):=⟨rfl,rfl,rfl,by decide +kernel,rfl,by decide +kernel,by decide +kernel⟩
structure Fs(K:PySem.W.Frag)(mg:Str->Option Value)(t_HOUR_MINUTES t_DAY_HOURS:Tok):Prop where
 m_HOUR_MINUTES:mg "HOUR_MINUTES"=some (.int 60 t_HOUR_MINUTES)
 m_DAY_HOURS:mg "DAY_HOURS"=some (.int 24 t_DAY_HOURS)
 z_range:mg "range"=none
 z_enumerate:mg "enumerate"=none
 z_set:mg "set"=none
 z_sorted:mg "sorted"=none
 z_len:mg "len"=none
 z_any:mg "any"=none
 z_abs:mg "abs"=none
 z_sum:mg "sum"=none
 z_list:mg "list"=none
 z_isinstance:mg "isinstance"=none
 F_has:Fn K mg "has" aoY ["mask","number"]
 F_mask_of:Fn K mg "mask_of" af8 ["numbers"]
 F_numbers_in:Fn K mg "numbers_in" adA ["mask"]
 F_lowest:Fn K mg "lowest" ahR ["mask"]
 F_hours_masks:Fn K mg "hours_masks" acP ["times"]
 F_turned_masks:Fn K mg "turned_masks" ab0 ["masks","many"]
 F_lies_within:Fn K mg "lies_within" acN ["mask","other"]
 F_made_within:Fn K mg "made_within" acK ["mask","masks"]
 F_not_made:Fn K mg "not_made" aeM ["masks"]
 F_places_around:Fn K mg "places_around" abT ["mask","masks"]
 F_fewer_rows:Fn K mg "fewer_rows" ac2 ["by_hour","by_minute"]
 F_own_pair:Fn K mg "own_pair" aeQ ["mask","by_hour"]
 F_candidates:Fn K mg "candidates" ac8 ["by_hour"]
 F_fit_one_row:Fn K mg "fit_one_row" acL ["pair","other","by_hour"]
 F_apart_pairs:Fn K mg "apart_pairs" acJ ["by_hour"]
 F_rows_for:Fn K mg "rows_for" ad8 ["times"]
 F__law_cell_at:Fn K mg "_law_cell_at" ab4 ["_law_script","_law_k"]
 F__law_stir:Fn K mg "_law_stir" adR ["_law_number"]
 F__law_digits:Fn K mg "_law_digits" acQ ["_law_cell","_law_sizes","_law_mixed"]
 F__law_parts:Fn K mg "_law_parts" ac6 ["_law_cuts","_law_some","_law_at","_law_deep"]
 F__law_masks:Fn K mg "_law_masks" ac3 ["_law_script","_law_mixed"]
 F__law_lone:Fn K mg "_law_lone" adO ["_law_masks_here","_law_one","_law_other"]
section
set_option maxHeartbeats 4000000
variable{P:Program}{w:World}{K:PySem.W.Frag}{mg:Str->Option Value}{base:Heap}{t_HOUR_MINUTES t_DAY_HOURS:Tok}(ZZ:Fs K mg t_HOUR_MINUTES t_DAY_HOURS)
include ZZ
theorem agS:Df P w K mg base "has" 1 ["mask","number"] (aqF K):=by
 refine ZZ.F_has.dfs aq3 (fun vs H Q E h=>?_) (fun f cdv A outer s H vs Q E hr h=>?_)
 ·obtain⟨m,n,rfl,h0,q⟩:=h
  rfl
 obtain⟨m,n,rfl,h0,q⟩:=h
 refine⟨_,(ss1 (aa1 (akQ oEq (eOp agV (eOp akE (v_ 0) (v_ 1)) eI) eI))),?_⟩
 refine⟨_,rfl,_,rfl,_,_,rfl,rfl,h0.2,_,_,rfl,rfl,rfl,?_⟩
 have e:decide (V.int (Builtin.bitAnd (m / 2^n.toNat) 1)=V.int 1)=tb m n.toNat:=by
  rw[←ajS h0.1]
  exact decide_eq_decide.mpr int_eq
 show Q (.bl (decide (V.int (Builtin.bitAnd (m / 2^n.toNat) 1)=V.int 1))) H
 rw[e]
 exact q
theorem aeG:Df P w K mg base "mask_of" 1 ["numbers"] (aiN K):=by
 refine ZZ.F_mask_of.dfs sc_mask_of (fun vs H Q E h=>?_) (fun f cdv A outer s H vs Q E hr h=>?_)
 ·obtain⟨a,zs,rfl,hS,hz,q⟩:=h
  rfl
 obtain⟨a,zs,rfl,hS,hz,q⟩:=h
 refine⟨_,(ssC (aa6 1 eI sc_mask_of.nd)
   (ssC (ahH (iL (v_ 0)) (gN 2 sc_mask_of.nd) (ss1 (aa6 1 (eOp oOr (v_ 1) (eOp an8 eI (v_ 2))) sc_mask_of.nd)) PassesOwn.never)
   (ss1 (aa1 (v_ 1))))),?_⟩
 refine⟨_,rfl,a,rfl,⟨_,hS⟩,acC (K:=K) (a:=a) (xs:=zs.map V.int) (fun i σ H2=>H2=H/\∃u:Option V,σ=[some (.ref a),some (.int (aaI (zs.take i))),u]) ⟨rfl,_,rfl⟩ (fun i σ H2 _ hP=>by rw[hP.1];exact hS) ?_ ?_⟩
 ·rintro i x σ H2 hx ⟨rfl,u,rfl⟩
  rw[List.getElem?_map] at hx
  cases ez:zs[i]? with
  |none=>rw[ez] at hx;cases hx
  |some z=>
   rw[ez] at hx
   obtain rfl:V.int z=x:=Option.some.inj hx
   have h:=hz z (List.mem_of_getElem? ez)
   have et:aaI (zs.take (i+1))=Builtin.bitOr (aaI (zs.take i)) (1*2^z.toNat):=by
    rw[List.take_succ,ez,←aeY]
    rfl
   exact⟨_,rfl,_,rfl,_,_,rfl,rfl,⟨h.1,by omega,by decide⟩,_,_,rfl,rfl,rfl,_,by rw[et];rfl⟩
 ·rintro σ H2 ⟨rfl,u,rfl⟩
  rw[List.length_map,List.take_length]
  exact⟨_,rfl,q⟩
theorem afP:Df P w K mg base "numbers_in" 2 ["mask"] (afA K):=by
 refine ZZ.F_numbers_in.dfs afK (fun vs H Q E h=>?_) (fun f cdv A outer s H vs Q E hr h=>?_)
 ·obtain⟨m,rfl,hm,q⟩:=h
  rfl
 obtain⟨m,rfl,hm,q⟩:=h
 refine⟨_,(ss1 (aa1 (acR ["mask"] [0] (iR1 ZZ.z_range (aC (eBL (v_ 0)) aN)) (fun _ _ _ _ _ _=>(fs1 (tVa (eD (agS ZZ) hr (aC (v_ 1) (aC (v_ 0) aN)))))) (fun _ _ _ _ _ _=>(v_ 0))))),?_⟩
 refine⟨_,rfl,rfl,_,rfl,rfl,_,rfl,by omega,by omega,abE (fun i z=>z=(flt (tb m) 0 i).map V.int) (by rw[sizeLine_eq,Int.toNat_natCast];omega) anE ?_ ?_⟩
 ·intro i z D H2 E' F' hi hR hD s2 hz hE hF
  subst hR
  refine⟨_,rfl,_,rfl,_,_,rfl,⟨hm.1,by omega⟩,_,rfl,?_⟩
  have e0:(0+(i:Int)).toNat=i:=by omega
  show if tb m (0+(i:Int)).toNat=true then _ else _
  rw[e0]
  by_cases c:tb m i=true
  ·rw[if_pos c]
   exact⟨_,rfl,hE _ _ (Same.refl _) (by rw[ac9 c,List.map_append];rfl)⟩
  ·rw[if_neg c]
   exact hF _ (Same.refl _) (by rw[adE (by simpa using c)])
 ·intro D H2 z hR hD s2 hz
  subst hR
  rw[Int.toNat_natCast] at hz
  exact q D H2 s2 hz
theorem akU:Df P w K mg base "lowest" 1 ["mask"] (akP K):=by
 refine ZZ.F_lowest.dfs aj9 (fun vs H Q E h=>?_) (fun f cdv A outer s H vs Q E hr h=>?_)
 ·obtain⟨m,k,rfl,hm,hk,hj,q⟩:=h
  rfl
 obtain⟨m,k,rfl,hm,hk,hj,q⟩:=h
 refine⟨_,(ss1 (aa1 (eOp amT (eBL (eOp agV (v_ 0) (eUn oNeg (v_ 0)))) eI))),?_⟩
 refine⟨_,rfl,_,rfl,_,rfl,_,_,rfl,rfl,rfl,_,rfl,rfl,_,_,rfl,rfl,?_⟩
 show Q (.int (((Builtin.Int.intBits (Builtin.bitAnd m (-m)):Nat):Int)-1)) H
 rw[anM hm hk hj,amZ,show (((k+1:Nat):Int)-1)=k by omega]
 exact q
theorem aeV:Df P w K mg base "hours_masks" 1 ["times"] (aeO K):=by
 refine ZZ.F_hours_masks.dfs sc_hours_masks (fun vs H Q E h=>?_) (fun f cdv A outer s H vs Q E hr h=>?_)
 ·obtain⟨ms,rfl,hm,q⟩:=h
  rfl
 obtain⟨ms,rfl,hm,q⟩:=h
 refine⟨_,(ssC (aa6 1 (eOp amT (eOp an8 eI (eGl (v:=.int 60) ZZ.m_HOUR_MINUTES ⟨_,rfl⟩)) eI) sc_hours_masks.nd)
   (ss1 (aa1 (acR ["whole_hour","times"] [1,0] (iR1 ZZ.z_range (aC (eGl (v:=.int 24) ZZ.m_DAY_HOURS ⟨_,rfl⟩) aN)) (fun _ _ _ _ _ _=>fsN) (fun _ _ _ _ _ _=>(eOp agV (eOp akE (v_ 2) (eOp ae9 (eGl (v:=.int 60) ZZ.m_HOUR_MINUTES ⟨_,rfl⟩) (v_ 0))) (v_ 1))))))),?_⟩
 refine⟨_,_,rfl,rfl,⟨by decide,by decide,by decide⟩,_,_,rfl,rfl,?_⟩
 refine⟨_,rfl,by decide,by decide,abE (fun i z=>z=((List.range i).map (hmT (tmT ms))).map V.int) (by show 24<=sizeLine;decide) rfl ?_ ?_⟩
 ·intro i z D H2 E' F' hi hR hD s2 hz hE hF
  subst hR
  refine⟨_,rfl,_,rfl,_,_,rfl,rfl,.inl ⟨by decide,by decide⟩,_,_,rfl,rfl,(by show (0:Int)<=60*(0+(i:Int));omega),_,rfl,_,_,rfl,rfl,hE _ _ (Same.refl _) ?_⟩
  rw[List.range_succ,List.map_append,List.map_append]
  rfl
 ·intro D H2 z hR hD s2 hz
  subst hR
  have e:(List.range 24).map (hmT (tmT ms))=ms:=by
   rw[←al2 hm.len]
   exact List.map_congr_left fun h _=>by rw[al2 hm.len];exact as6 hm.bd h
  refine q D H2 s2 ?_
  rw[hz]
  show some (HO.lst (((List.range 24).map (hmT (tmT ms))).map V.int))=_
  rw[e]
theorem ad1:Df P w K mg base "turned_masks" 2 ["masks","many"] (adX K):=by
 refine ZZ.F_turned_masks.dfs adS (fun vs H Q E h=>?_) (fun f cdv A outer s H vs Q E hr h=>?_)
 ·obtain⟨a,ms,n,rfl,hS,hn,hl,h63,q⟩:=h
  rfl
 obtain⟨a,ms,n,rfl,hS,hn,hl,h63,q⟩:=h
 refine⟨_,(ss1 (aa1 (ak3 ["number"] ["masks"] [0] (iR1 ZZ.z_range (aC (v_ 1) aN)) (fun _ _ _ _ _ _ hh=>gN 0 (show ((["number"]:List Str)++(["masks"]:List Str)).Nodup by decide +kernel)) (fun _ _ _ _ _ _ hh=>fsN) (fun _ _ _ _ _ _ hh=>(eD (aeG ZZ) hr (aC (amC ["place","mask"] ["number"] [0] (iEc (K:=K) ZZ.z_enumerate (v_ 1)) (fun _ _ _ _ _ _=>asH (K:=K) (n:=2) (gsC (gN 0 (show ((["place","mask"]:List Str)++(["number"]:List Str)).Nodup by decide +kernel)) (gsC (gN 1 (show ((["place","mask"]:List Str)++(["number"]:List Str)).Nodup by decide +kernel)) gsN))) (fun _ _ _ _ _ _=>(fs1 (tVa (eD (agS ZZ) hr (aC (v_ 1) (aC (v_ 2) aN)))))) (fun _ _ _ _ _ _=>(v_ 0)) (hcl:=ai5 hh rfl rfl rfl rfl)) aN)))))),?_⟩
 have em:(ms.map V.int).length=ms.length:=List.length_map _
 refine⟨_,rfl,_,rfl,by omega,by omega,ahW (abE (fun i z=>z=((List.range i).map (col ms)).map V.int) (by rw[sizeLine_eq];omega) rfl ?_ ?_)⟩
 ·intro i z D H2 E' F' hi hR hD s2 hz hE hF
  subst hR
  refine⟨_,rfl,a,rfl,⟨_,s2.seq hS⟩,aeE (xs:=ms.map V.int) (fun _ k l _=>l=(flt (fun h=>tb (gd ms h) i) 0 k).map V.int) (fun _ _ _ _ _ h=>h) (fun _ _ _ _ _ _ h=>h) (by rw[em,sizeLine_eq];omega) (fun _ _=>by rw[ab5];rfl) (s2.seq hS) ?_ ?_⟩
  ·intro k x l D3 H3 E3 F3 hx hR3 hD3 s3 hz3 hE3 hF3
   subst hR3
   rw[List.getElem?_map] at hx
   cases ek:ms[k]? with
   |none=>rw[ek] at hx;cases hx
   |some m=>
    rw[ek] at hx
    obtain rfl:V.int m=x:=Option.some.inj hx
    have e0:(0+(i:Int)).toNat=i:=by omega
    refine⟨_,rfl,_,rfl,_,_,rfl,⟨hn m (List.mem_of_getElem? ek),by omega⟩,_,rfl,?_⟩
    show if tb m (0+(i:Int)).toNat=true then _ else _
    rw[e0]
    by_cases c:tb m i=true
    ·rw[if_pos c]
     refine⟨_,rfl,hE3 _ _ (Same.refl _) ?_⟩
     rw[ac9 (by rw[aa2 ek];exact c),List.map_append,List.map_singleton,Int.zero_add]
    ·rw[if_neg c]
     exact hF3 _ (Same.refl _) (by rw[adE (by rw[aa2 ek];simpa using c)])
  ·intro D3 H3 l hR3 hD3 s3 hz3
   subst hR3
   rw[em] at hz3
   refine⟨D3,flt (fun h=>tb (gd ms h) i) 0 ms.length,rfl,SqL.of hz3,(fun z hz=>by obtain⟨k,hk,_,rfl⟩:=flt_mem.mp hz;omega),?_⟩
   rw[afT]
   refine hE _ _ s3 ?_
   rw[List.range_succ,List.map_append,List.map_append]
   rfl
 ·intro D H2 z hR hD s2 hz
  subst hR
  rw[Int.toNat_natCast] at hz
  exact q D H2 s2 hz
theorem ab6:Df P w K mg base "lies_within" 1 ["mask","other"] (aeX K):=by
 refine ZZ.F_lies_within.dfs ae3 (fun vs H Q E h=>?_) (fun f cdv A outer s H vs Q E hr h=>?_)
 ·obtain⟨m,o,rfl,q⟩:=h
  rfl
 obtain⟨m,o,rfl,q⟩:=h
 refine⟨_,(ss1 (aa1 (akQ oEq (eOp agV (v_ 0) (v_ 1)) (v_ 0)))),?_⟩
 refine⟨_,rfl,_,rfl,_,_,rfl,rfl,_,rfl,rfl,?_⟩
 show Q (.bl (decide (V.int (Builtin.bitAnd m o)=V.int m))) H
 have e:decide (V.int (Builtin.bitAnd m o)=V.int m)=decide (sub m o):=decide_eq_decide.mpr ⟨fun z=>V.int.inj z,fun z=>congrArg V.int z⟩
 rw[e]
 exact q
theorem acA:Df P w K mg base "made_within" 2 ["mask","masks"] (aeC K):=by
 refine ZZ.F_made_within.dfs sc_made_within (fun vs H Q E h=>?_) (fun f cdv A outer s H vs Q E hr h=>?_)
 ·obtain⟨m,a,ms,rfl,hS,q⟩:=h
  rfl
 obtain⟨m,a,ms,rfl,hS,q⟩:=h
 refine⟨_,(ssC (aa6 2 eI sc_made_within.nd)
   (ssC (ahH (iL (v_ 1)) (gN 3 sc_made_within.nd) (ss1 (sIf (tW (ar6 (tCm oNe (v_ 3) (v_ 0)) (ao0 (tVa (eD (ab6 ZZ) hr (aC (v_ 3) (aC (v_ 0) aN))))))) (ss1 (aa6 2 (eOp oOr (v_ 2) (v_ 3)) sc_made_within.nd)) ssN)) PassesOwn.never)
   (ss1 (aa1 (v_ 2))))),?_⟩
 refine⟨_,rfl,a,rfl,⟨_,hS⟩,acC (K:=K) (a:=a) (xs:=ms.map V.int) (fun i σ H2=>H2=H/\∃u:Option V,σ=[some (.int m),some (.ref a),some (.int (aaP m (ms.take i))),u]) ⟨rfl,_,rfl⟩ (fun i σ H2 _ hP=>by rw[hP.1];exact hS) ?_ ?_⟩
 ·rintro i x σ H2 hx ⟨rfl,u,rfl⟩
  rw[List.getElem?_map] at hx
  cases ez:ms[i]? with
  |none=>rw[ez] at hx;cases hx
  |some o=>
   rw[ez] at hx
   obtain rfl:V.int o=x:=Option.some.inj hx
   have et:ms.take (i+1)=ms.take i++[o]:=by rw[List.take_succ,ez];rfl
   have no:¬(o≠m/\sub o m)->aaP m (ms.take (i+1))=aaP m (ms.take i):=fun c=>by
    unfold aaP
    rw[et,List.filter_append]
    have:([o]:List Int).filter (fun o=>decide (o≠m)&&decide (sub o m))=[]:=by
     rw[akI,if_neg]
     rw[Bool.and_eq_true,decide_eq_true_eq,decide_eq_true_eq]
     exact c
    rw[this,List.append_nil]
   refine⟨_,rfl,_,rfl,rfl,_,rfl,?_⟩
   by_cases c:o=m
   ·subst c
    rw[decide_eq_true rfl]
    exact adY ⟨rfl,_,by rw[no (fun z=>z.1 rfl)];rfl⟩
   ·rw[decide_eq_false (fun z=>c (V.int.inj z))]
    refine aiD ⟨_,rfl,_,rfl,o,m,rfl,_,rfl,ifD (fun c2=>?_) (fun c2=>?_)⟩
    ·have e:aaP m (ms.take (i+1))=Builtin.bitOr (aaP m (ms.take i)) o:=by
      unfold aaP
      rw[et,List.filter_append]
      have:([o]:List Int).filter (fun o=>decide (o≠m)&&decide (sub o m))=[o]:=by
       rw[akI,if_pos]
       rw[Bool.and_eq_true,decide_eq_true_eq,decide_eq_true_eq]
       exact⟨c,c2⟩
      rw[this,amN]
     exact⟨_,rfl,_,rfl,_,_,rfl,rfl,rfl,_,by rw[e];rfl⟩
    ·exact⟨rfl,_,by rw[no (fun z=>c2 z.2)];rfl⟩
 ·rintro σ H2 ⟨rfl,u,rfl⟩
  rw[List.length_map,List.take_length]
  exact⟨_,rfl,q⟩
theorem abY:Df P w K mg base "not_made" 3 ["masks"] (ah3 K):=by
 refine ZZ.F_not_made.dfs ag8 (fun vs H Q E h=>?_) (fun f cdv A outer s H vs Q E hr h=>?_)
 ·obtain⟨a,ms,rfl,hS,hl,q⟩:=h
  rfl
 obtain⟨a,ms,rfl,hS,hl,q⟩:=h
 refine⟨_,(ss1 (aa1 (acR ["masks"] [0] (iL (eCB arP ZZ.z_sorted PyProof.Rows.boot_sorted (aC (eCT cSet ZZ.z_set PyProof.Rows.boot_set (aC (v_ 0) aN)) aN))) (fun _ _ _ _ _ _=>(fs1 (tCm oNe (eD (acA ZZ) hr (aC (v_ 0) (aC (v_ 1) aN))) (v_ 0)))) (fun _ _ _ _ _ _=>(v_ 0))))),?_⟩
 refine⟨_,rfl,a,ms,rfl,hS,(by omega),fun s hs=>⟨s,ms,rfl,aaA,hl,fun z zs hz hpw hmem=>?_⟩⟩
 have lz:zs.length<=63:=Nat.le_trans (aa4 (hpw.imp fun h=>by omega) fun x hx=>(hmem x).mp hx) hl
 have s1:=(aaB hs (stO P w s ms)).trans (aaB hz (.lst (zs.map V.int)))
 refine⟨z,rfl,⟨_,SqL.of aaA⟩,aa3 (xs:=zs.map V.int) (fun i l=>l=((zs.take i).filter fun m=>decide (aaP m ms≠m)).map V.int) (by rw[List.length_map,sizeLine_eq];omega) rfl (SqL.of aaA) ?_ ?_⟩
 ·intro i x l D H2 E' F' hx hR hD s2 hz2 hE hF
  subst hR
  rw[List.getElem?_map] at hx
  cases ez:zs[i]? with
  |none=>rw[ez] at hx;cases hx
  |some m=>
   rw[ez] at hx
   obtain rfl:V.int m=x:=Option.some.inj hx
   have et:zs.take (i+1)=zs.take i++[m]:=by rw[List.take_succ,ez];rfl
   refine⟨_,rfl,_,rfl,m,a,ms,rfl,(s1.trans s2).seq hS,_,rfl,rfl,_,rfl,?_⟩
   by_cases c:aaP m ms=m
   ·rw[decide_eq_true (congrArg V.int c)]
    refine adY (hF _ (Same.refl _) ?_)
    rw[et,List.filter_append,akI,if_neg (by rw[decide_eq_true_eq];exact fun z=>z c),List.append_nil]
   ·rw[decide_eq_false (fun z=>c (V.int.inj z))]
    refine aiD ⟨_,rfl,hE _ _ (Same.refl _) ?_⟩
    rw[et,List.filter_append,akI,if_pos (decide_eq_true c),List.map_append]
    rfl
 ·intro D H2 l hR hD s2 hz2
  subst hR
  rw[List.length_map,List.take_length] at hz2
  refine q D _ H2 (s1.trans s2) ⟨hpw.filter _,fun x=>?_⟩ hz2
  rw[List.mem_filter,hmem,decide_eq_true_eq]
theorem abJ:Df P w K mg base "places_around" 2 ["mask","masks"] (adD K):=by
 refine ZZ.F_places_around.dfs adJ (fun vs H Q E h=>?_) (fun f cdv A outer s H vs Q E hr h=>?_)
 ·obtain⟨m,a,ms,rfl,hS,hl,q⟩:=h
  rfl
 obtain⟨m,a,ms,rfl,hS,hl,q⟩:=h
 refine⟨_,(ss1 (aa1 (eD (aeG ZZ) hr (aC (amC ["place","other"] ["mask"] [0] (iE ZZ.z_enumerate (v_ 1)) (fun _ _ _ _ _ _=>asH (K:=K) (n:=2) (gsC (gN 0 (show ((["place","other"]:List Str)++(["mask"]:List Str)).Nodup by decide +kernel)) (gsC (gN 1 (show ((["place","other"]:List Str)++(["mask"]:List Str)).Nodup by decide +kernel)) gsN))) (fun _ _ _ _ _ _=>(fs1 (tVa (eD (ab6 ZZ) hr (aC (v_ 2) (aC (v_ 1) aN)))))) (fun _ _ _ _ _ _=>(v_ 0))) aN)))),?_⟩
 have em:(ms.map V.int).length=ms.length:=List.length_map _
 refine⟨_,rfl,a,rfl,⟨_,hS⟩,aeE (xs:=ms.map V.int) (fun _ k l _=>l=(flt (fun i=>decide (sub m (gd ms i))) 0 k).map V.int) (fun _ _ _ _ _ h=>h) (fun _ _ _ _ _ _ h=>h) (by rw[em,sizeLine_eq];omega) (fun _ _=>by rw[ab5];rfl) hS ?_ ?_⟩
 ·intro k x l D3 H3 E3 F3 hx hR3 hD3 s3 hz3 hE3 hF3
  subst hR3
  rw[List.getElem?_map] at hx
  cases ek:ms[k]? with
  |none=>rw[ek] at hx;cases hx
  |some o=>
   rw[ek] at hx
   obtain rfl:V.int o=x:=Option.some.inj hx
   refine⟨_,rfl,_,rfl,m,o,rfl,_,rfl,ifD (fun c=>⟨_,rfl,hE3 _ _ (Same.refl _) ?_⟩) (fun c=>hF3 _ (Same.refl _) ?_)⟩
   ·rw[ac9 (by rw[aa2 ek];exact decide_eq_true c),List.map_append,List.map_singleton,Int.zero_add]
   ·rw[adE (by rw[aa2 ek];exact decide_eq_false c)]
 ·intro D3 H3 l hR3 hD3 s3 hz3
  subst hR3
  rw[em] at hz3
  refine⟨D3,flt (fun i=>decide (sub m (gd ms i))) 0 ms.length,rfl,SqL.of hz3,(fun z hz=>by obtain⟨k,hk,_,rfl⟩:=flt_mem.mp hz;omega),?_⟩
  rw[afT]
  exact q H3 s3
theorem afN:Df P w K mg base "fewer_rows" 4 ["by_hour","by_minute"] (afE K):=by
 refine ZZ.F_fewer_rows.dfs sc_fewer_rows (fun vs H Q E h=>?_) (fun f cdv A outer s H vs Q E hr h=>?_)
 ·obtain⟨a,b,ms,bm,rfl,hA,hB,h1,h2,q⟩:=h
  rfl
 obtain⟨a,b,ms,bm,rfl,hA,hB,h1,h2,q⟩:=h
 refine⟨_,(ssC (ajJ 2 ["by_hour"] [0] (iL (eD (abY ZZ) hr (aC (v_ 0) aN))) (fun _ _ _ _ _ _=>fsN) (fun _ _ _ _ _ _=>(alO (aC (eD (abJ ZZ) hr (aC (v_ 0) (aC (v_ 1) aN))) (aC (v_ 0) aN)))) sc_fewer_rows.nd)
   (ssC (ajJ 3 ["by_minute"] [1] (iL (eD (abY ZZ) hr (aC (v_ 1) aN))) (fun _ _ _ _ _ _=>fsN) (fun _ _ _ _ _ _=>(alO (aC (v_ 0) (aC (eD (abJ ZZ) hr (aC (v_ 0) (aC (v_ 1) aN))) aN)))) sc_fewer_rows.nd)
   (ss1 (aa1 (eIf (tCm oLe (eCB agT ZZ.z_len PySem.boot_len (aC (v_ 2) aN)) (eCB agT ZZ.z_len PySem.boot_len (aC (v_ 3) aN))) (v_ 2) (v_ 3)))))),?_⟩
 refine⟨_,rfl,a,ms,rfl,hA,h1,fun p L HA sA hL hp=>⟨p,rfl,⟨_,SqL.of hp⟩,abS (xs:=L.map V.int) (fun i z H=>∃ts:List Addr,z=ts.map V.ref/\acX H ts (ae8 ms (L.take i))) (fun i l H H' k ⟨ts,e,h⟩=>⟨ts,e,abL k h⟩) (by rw[List.length_map,sizeLine_eq];have:=abK hL h1;omega) ⟨[],rfl,.nil⟩ (SqL.of hp) ?st1 ?dn1⟩⟩
 case st1=>
  intro i x l D1 H2 E' F' hx ⟨ts,el,hts⟩ hD s2 hz hE hF
  rw[List.getElem?_map] at hx
  cases ez:L[i]? with
  |none=>rw[ez] at hx;cases hx
  |some m=>
   rw[ez] at hx
   obtain rfl:V.int m=x:=Option.some.inj hx
   have et:L.take (i+1)=L.take i++[m]:=by rw[List.take_succ,ez];rfl
   refine⟨_,rfl,_,rfl,m,a,ms,rfl,(sA.trans s2).seq hA,h1,fun H3 s3=>⟨_,rfl,(by show 2<=sizeLine;decide),fun t ht=>hE _ _ (s3.trans (aaB ht _)) ?_⟩⟩
   have kt:Keep H2 (upd H3 t (.tup [.int (adW m ms),.int m])):=(s3.trans (aaB ht _)).keep
   exact⟨ts++[t],by rw[el,List.map_append];rfl,by rw[et,aiE];exact agF (abL kt hts) (.cons aaA .nil)⟩
 case dn1=>
  intro P1 H3 l ⟨ts,el,hts⟩ hP1 s3 hz
  subst el
  rw[List.length_map,List.take_length] at hts
  have sB:=sA.trans s3
  refine⟨_,rfl,b,bm,rfl,sB.seq hB,h2,fun p' L' HB sC hL' hp'=>⟨p',rfl,⟨_,SqL.of hp'⟩,abS (xs:=L'.map V.int) (fun i z H=>∃ts:List Addr,z=ts.map V.ref/\acX H ts (aeW bm (L'.take i))) (fun i l H H' k ⟨ts,e,h⟩=>⟨ts,e,abL k h⟩) (by rw[List.length_map,sizeLine_eq];have:=abK hL' h2;omega) ⟨[],rfl,.nil⟩ (SqL.of hp') ?st2 ?dn2⟩⟩
  case st2=>
   intro i x l D2 H2 E' F' hx ⟨ts,el,hts⟩ hD s2 hz hE hF
   rw[List.getElem?_map] at hx
   cases ez:L'[i]? with
   |none=>rw[ez] at hx;cases hx
   |some m=>
    rw[ez] at hx
    obtain rfl:V.int m=x:=Option.some.inj hx
    have et:L'.take (i+1)=L'.take i++[m]:=by rw[List.take_succ,ez];rfl
    refine⟨_,rfl,_,rfl,_,rfl,m,b,bm,rfl,(sB.trans (sC.trans s2)).seq hB,h2,fun H3 s3=>⟨(by show 2<=sizeLine;decide),fun t ht=>hE _ _ (s3.trans (aaB ht _)) ?_⟩⟩
    have kt:Keep H2 (upd H3 t (.tup [.int m,.int (adW m bm)])):=(s3.trans (aaB ht _)).keep
    exact⟨ts++[t],by rw[el,List.map_append];rfl,by rw[et,aiV];exact agF (abL kt hts) (.cons aaA .nil)⟩
  case dn2=>
   intro P2 H4 l ⟨us,el,hus⟩ hP2 s4 hz2
   subst el
   rw[List.length_map,List.take_length] at hus
   have sD:=sC.trans s4
   have lt:ts.length=L.length:=by rw[Paired.length hts];exact List.length_map _
   have lu:us.length=L'.length:=by rw[Paired.length hus];exact List.length_map _
   refine⟨_,rfl,P1,_,rfl,.inl (SqL.of (sD _ _ hz)),_,rfl,P2,_,rfl,.inl (SqL.of hz2),_,_,rfl,rfl,_,rfl,ifD (fun c=>⟨_,rfl,q P1 ts _ L L' H4 (sA.free hP1) (sB.trans sD) (sD _ _ hz) (abL sD.keep hts) hL hL' (.inl ⟨rfl,?_⟩)⟩) (fun c=>⟨_,rfl,q P2 us _ L L' H4 ((sB.trans sC).free hP2) (sB.trans sD) hz2 hus hL hL' (.inr ⟨rfl,?_⟩)⟩)⟩
   ·rw[List.length_map,List.length_map,lt,lu] at c
    omega
   ·rw[List.length_map,List.length_map,lt,lu] at c
    omega
theorem ah6:Df P w K mg base "own_pair" 3 ["mask","by_hour"] (ag5 K):=by
 refine ZZ.F_own_pair.dfs sc_own_pair (fun vs H Q E h=>?_) (fun f cdv A outer s H vs Q E hr h=>?_)
 ·obtain⟨m,a,ms,rfl,hS,hn,hm,hk,q⟩:=h
  rfl
 obtain⟨m,a,ms,rfl,hS,hn,hm,hk,q⟩:=h
 refine⟨_,(ssC (aa6 2 (eOp agV (v_ 0) (eUn oInv (eD (acA ZZ) hr (aC (v_ 0) (aC (v_ 1) aN))))) sc_own_pair.nd)
   (ss1 (aa1 (alO (aC (asL (v_ 1) (v_ 0)) (aC (eD (akU ZZ) hr (aC (v_ 2) aN)) aN)))))),?_⟩
 have h0:=hn m hm
 have an:=amU h0 (abG (m:=m) hn).1
 have hp:=anO h0 hn hk
 obtain⟨k,k1,k2⟩:=as8 hp
 obtain⟨i,i1,i2⟩:=akY hm
 refine⟨_,rfl,_,rfl,_,rfl,m,a,ms,rfl,hS,_,rfl,_,_,rfl,rfl,?_⟩
 have hb:=k1
 rw[an.2,Bool.and_eq_true,Bool.not_eq_true'] at hb
 refine⟨_,rfl,.inl ⟨rfl,_,hS⟩,_,rfl,a,ms,m,i,rfl,rfl,hS,i1,i2,_,rfl,_,k,rfl,hp,k1,k2,(by show 2<=sizeLine;decide),fun t ht=>q t (i,k) _ (aaB ht _) aaA ⟨i1,hb⟩⟩
theorem afG:Df P w K mg base "candidates" 4 ["by_hour"] (afM K):=by
 refine ZZ.F_candidates.dfs sc_candidates (fun vs H Q E h=>?_) (fun f cdv A outer s H vs Q E hr h=>?_)
 ·obtain⟨a,ms,rfl,hS,hM,q⟩:=h
  rfl
 obtain⟨a,ms,rfl,hS,hM,q⟩:=h
 refine⟨_,(ssC (ajJ 1 ["by_hour"] [0] (iL (eD (abY ZZ) hr (aC (v_ 0) aN))) (fun _ _ _ _ _ _=>fsN) (fun _ _ _ _ _ _=>(eD (ah6 ZZ) hr (aC (v_ 0) (aC (v_ 1) aN)))) sc_candidates.nd)
   (ssC (ahH (iE ZZ.z_enumerate (v_ 0)) (gTu (gsC (gN 2 sc_candidates.nd) (gsC (gN 3 sc_candidates.nd) gsN))) (ss1 (an9 (eExt (v_ 1) (acR ["hour"] [2] (iL (eD (afP ZZ) hr (aC (v_ 3) aN))) (fun _ _ _ _ _ _=>fsN) (fun _ _ _ _ _ _=>(alO (aC (v_ 1) (aC (v_ 0) aN)))))))) PassesOwn.never)
   (ss1 (aa1 (v_ 1))))),?_⟩
 have hn:∀o∈ms,0<=o:=fun o ho=>(hM.bd o ho).1
 have h63:ms.length<=63:=by rw[hM.len];decide
 refine⟨_,rfl,a,ms,rfl,hS,h63,fun p L HA sA hL hp=>⟨p,rfl,⟨_,SqL.of hp⟩,abS (xs:=L.map V.int) (fun i z H=>∃(ts:List Addr) (os:List (Nat×Nat)),z=ts.map V.ref/\KM.PrT H ts os/\Paired (acU ms) (L.take i) os) (fun i l H H' k ⟨ts,os,e,h,h'⟩=>⟨ts,os,e,h.keep k,h'⟩) (by rw[List.length_map,sizeLine_eq];have:=abK hL h63;omega) ⟨[],[],rfl,.nil,.nil⟩ (SqL.of hp) ?st1 ?dn1⟩⟩
 case st1=>
  intro i x l D1 H2 E' F' hx ⟨ts,os,el,hts,hos⟩ hD s2 hz hE hF
  rw[List.getElem?_map] at hx
  cases ez:L[i]? with
  |none=>rw[ez] at hx;cases hx
  |some m=>
   rw[ez] at hx
   obtain rfl:V.int m=x:=Option.some.inj hx
   have et:L.take (i+1)=L.take i++[m]:=by rw[List.take_succ,ez];rfl
   obtain⟨m1,m2⟩:=(hL.2 m).mp (List.mem_of_getElem? ez)
   exact⟨_,rfl,_,rfl,m,a,ms,rfl,(sA.trans s2).seq hS,hn,m1,m2,fun t c H3 s3 ht hc=>hE _ _ s3 ⟨ts++[t],os++[c],by rw[el,List.map_append];rfl,aeN (hts.keep s3.keep) (.cons ht .nil),by rw[et];exact ajO hos hc⟩⟩
 case dn1=>
  intro P1 H3 l ⟨ts,os,el,hts,hos⟩ hP1 s3 hz
  subst el
  rw[List.length_map,List.take_length] at hos
  have sB:=sA.trans s3
  have hPn:H P1=none:=sA.free hP1
  have lo:ts.length<=63:=by rw[Paired.length hts,←Paired.length hos];exact abK hL h63
  refine⟨_,rfl,a,rfl,⟨_,sB.seq hS⟩,amP (K:=K) (a:=a) (xs:=ms.map V.int) (fun i σ H4=>∃(u2 u3:Option V) (us:List Addr),σ=[some (.ref a),some (.ref P1),u2,u3]/\Same H H4/\H4 P1=some (.lst (us.map V.ref))/\KM.PrT H4 us (os++abX ms i)/\us.length<=63+60*i) ⟨_,_,ts,rfl,sB,hz,by rw[show abX ms 0=[] from rfl,List.append_nil];exact hts,by omega⟩ (fun i σ H4 _ ⟨_,_,_,_,s4,_⟩=>s4.seq hS) ?aaU ?done⟩
  case done=>
   rintro σ H4 ⟨u2,u3,us,rfl,s4,h4,hus,_⟩
   rw[List.length_map,hM.len] at hus
   exact⟨_,rfl,q P1 us L os H4 s4 hL hos h4 hus⟩
  case aaU=>
   rintro i x σ H4 T hx ⟨u2,u3,us,rfl,s4,h4,hus,hlu⟩ hT
   rw[List.getElem?_map] at hx
   cases ek:ms[i]? with
   |none=>rw[ek] at hx;cases hx
   |some m=>
    rw[ek] at hx
    obtain rfl:V.int m=x:=Option.some.inj hx
    have hb:=hM.bd m (List.mem_of_getElem? ek)
    have hi:i<24:=by rw[←hM.len];exact (List.getElem?_eq_some_iff.mp ek).1
    have bl:=aiY hb.1 hb.2
    have eN:agW m=flt (tb m) 0 60:=anQ hb.1 hb.2
    have lN:(agW m).length<=60:=by rw[eN];exact ag0 _ _ _
    refine⟨T,_,rfl,SqT.of aaA,rfl,_,_,rfl,_,_,rfl,rfl,?_⟩
    have h4T:=(aaB hT (.tup [.int i,.int m])) _ _ h4
    refine⟨_,rfl,.inl ⟨rfl,_,SqL.of h4T⟩,_,rfl,m,rfl,⟨hb.1,by omega⟩,fun pn H5 s5 hpn=>⟨pn,rfl,⟨_,SqL.of hpn⟩,abS (xs:=(agW m).map V.int) (fun k z H=>∃vs:List Addr,z=vs.map V.ref/\KM.PrT H vs (((agW m).take k).map fun z:Int=>((i,z.toNat):Nat×Nat))) (fun k l H H' kk ⟨vs,e,h⟩=>⟨vs,e,h.keep kk⟩) (by rw[List.length_map,sizeLine_eq];omega) ⟨[],rfl,.nil⟩ (SqL.of hpn) ?st2 ?dn2⟩⟩
    case st2=>
     intro k y l D2 H6 E' F' hy ⟨vs,el,hvs⟩ hD2 s6 hz6 hE hF
     rw[List.getElem?_map] at hy
     cases ey:(agW m)[k]? with
     |none=>rw[ey] at hy;cases hy
     |some z=>
      rw[ey] at hy
      obtain rfl:V.int z=y:=Option.some.inj hy
      have hz0:0<=z:=by
       have:=List.mem_of_getElem? ey
       rw[eN] at this
       obtain⟨j,_,_,rfl⟩:=flt_mem.mp this
       omega
      have et:(agW m).take (k+1)=(agW m).take k++[z]:=by rw[List.take_succ,ey];rfl
      exact⟨_,rfl,_,rfl,(by show 2<=sizeLine;decide),fun t ht=>hE _ _ (aaB ht _) ⟨vs++[t],by rw[el,List.map_append];rfl,by
       rw[et,List.map_append]
       refine aeN (hvs.keep (aaB ht _).keep) (.cons ?_ .nil)
       show upd H6 t _ t=some (.tup [.int (i:Int),.int ((z.toNat:Nat):Int)])
       rw[Int.toNat_of_nonneg hz0]
       exact aaA⟩⟩
    case dn2=>
     intro P2 H6 l ⟨vs,el,hvs⟩ hP2 s6 hz6
     subst el
     rw[List.length_map,List.take_length] at hvs
     have s46:=(aaB hT (.tup [.int i,.int m])).trans (s5.trans s6)
     have lv:vs.length<=60:=by rw[Paired.length hvs,List.length_map];exact lN
     refine⟨P1,P2,_,_,rfl,rfl,s46 _ _ h4,hz6,(by rw[List.length_map,List.length_map,sizeLine_eq];omega),?_⟩
     have kp:=s46.keep.trans (ac1 (l':=us.map V.ref++vs.map V.ref) (s46 _ _ h4))
     have kv:=ac1 (l':=us.map V.ref++vs.map V.ref) (s46 _ _ h4)
     refine⟨_,_,us++vs,rfl,ab8 hPn (s4.trans s46),by rw[List.map_append];exact aaA,?_,by rw[List.length_append];omega⟩
     rw[ahI,aa2 ek,←eN,←List.append_assoc]
     exact aeN (hus.keep kp) (hvs.keep kv)
theorem aeF:Df P w K mg base "fit_one_row" 2 ["pair","other","by_hour"] (aeP K):=by
 refine ZZ.F_fit_one_row.dfs ae5 (fun vs H Q E h=>?_) (fun f cdv A outer s H vs Q E hr h=>?_)
 ·obtain⟨t,u,a,c,d,ms,rfl,ht,hu,hS,hn,h1,h2,q⟩:=h
  rfl
 obtain⟨t,u,a,c,d,ms,rfl,ht,hu,hS,hn,h1,h2,q⟩:=h
 refine⟨_,(ss1 (aa1 (eAnd (eD (agS ZZ) hr (aC (eIx xL (v_ 2) (eIx xT (v_ 0) eI)) (aC (eIx xT (v_ 1) eI) aN))) (ap1 (eD (agS ZZ) hr (aC (eIx xL (v_ 2) (eIx xT (v_ 1) eI)) (aC (eIx xT (v_ 0) eI) aN))))))),?_⟩
 have g1:0<=gd ms c.1:=hn _ (abP h1)
 have g2:0<=gd ms d.1:=hn _ (abP h2)
 refine⟨_,rfl,_,rfl,t,_,_,_,rfl,rfl,SqT.of ht,rfl,a,_,_,_,rfl,rfl,hS,acM h1,_,rfl,u,_,_,_,rfl,rfl,SqT.of hu,rfl,_,_,rfl,⟨g1,by omega⟩,_,rfl,?_⟩
 have e:abA ms c d=(tb (gd ms c.1) d.2&&tb (gd ms d.1) c.2):=rfl
 rw[e] at q
 rw[show ((d.2:Nat):Int).toNat=d.2 from Int.toNat_natCast _]
 cases z:tb (gd ms c.1) d.2 with
 |false=>
  rw[z,Bool.false_and] at q
  exact adY q
 |true=>
  rw[z,Bool.true_and] at q
  refine aiD ⟨_,rfl,_,rfl,u,_,_,_,rfl,rfl,SqT.of hu,rfl,a,_,_,_,rfl,rfl,hS,acM h2,_,rfl,t,_,_,_,rfl,rfl,SqT.of ht,rfl,_,_,rfl,⟨g2,by omega⟩,?_⟩
  rw[show ((c.2:Nat):Int).toNat=c.2 from Int.toNat_natCast _]
  exact q
theorem aeS:Df P w K mg base "apart_pairs" 5 ["by_hour"] (ae7 K):=by
 refine ZZ.F_apart_pairs.dfs sc_apart_pairs (fun vs H Q E h=>?_) (fun f cdv A outer s H vs Q E hr h=>?_)
 ·obtain⟨a,ms,rfl,hS,hM,q⟩:=h
  rfl
 obtain⟨a,ms,rfl,hS,hM,q⟩:=h
 refine⟨_,(ssC (aa6 1 (agZ aN) sc_apart_pairs.nd)
   (ssC (ahH (iL (eD (afG ZZ) hr (aC (v_ 0) aN))) (gN 2 sc_apart_pairs.nd) (ss1 (sIf (tNo (tVa (eCB cAny ZZ.z_any boot_any (aC (acR ["pair","by_hour"] [2,0] (iL (v_ 1)) (fun _ _ _ _ _ _=>fsN) (fun _ _ _ _ _ _=>(eD (aeF ZZ) hr (aC (v_ 1) (aC (v_ 0) (aC (v_ 2) aN)))))) aN)))) (ss1 (an9 (apM (v_ 1) (v_ 2)))) ssN)) PassesOwn.never)
   (ss1 (aa1 (v_ 1))))),?_⟩
 have hn:∀o∈ms,0<=o:=fun o ho=>(hM.bd o ho).1
 refine⟨(by show 0<=sizeLine;decide),fun P1 hP1=>?_⟩
 have s0:=aaB hP1 (.lst [])
 refine⟨_,rfl,a,ms,rfl,s0.seq hS,hM,fun p ts L os H1 s1 hL hos hp hts=>?_⟩
 have hlt:=arD hM hos
 obtain⟨cs,ecs⟩:∃cs,cs=os++abX ms 24:=⟨_,rfl⟩
 rw[←ecs] at hts hlt
 have lcs:cs.length<=2000:=by rw[ecs];exact aqI hM hL hos
 refine⟨p,rfl,⟨_,SqL.of hp⟩,acC (K:=K) (a:=p) (xs:=ts.map V.ref) (fun i σ H2=>∃(u:Option V) (us:List Addr),σ=[some (.ref a),some (.ref P1),u]/\Same H H2/\H2 p=some (.lst (ts.map V.ref))/\H2 P1=some (.lst (us.map V.ref))/\KM.PrT H2 us (gr ms [] (cs.take i))/\KM.PrT H2 ts cs/\us.length<=i) ⟨_,[],rfl,s0.trans s1,hp,s1 _ _ aaA,.nil,hts,Nat.le_refl _⟩ (fun i σ H2 _ ⟨_,_,_,_,h,_⟩=>SqL.of h) ?aaU ?done⟩
 case done=>
  rintro σ H2 ⟨u,us,rfl,s2,h2,h2P,hus,_,_⟩
  have lt:ts.length=cs.length:=Paired.length hts
  rw[List.length_map,lt,List.take_length,ecs] at hus
  exact⟨_,rfl,q P1 us L os H2 hP1 s2 hL hos h2P hus⟩
 case aaU=>
  rintro i x σ H2 hx ⟨u,us,rfl,s2,h2,h2P,hus,hts2,hlu⟩
  rw[List.getElem?_map] at hx
  cases ez:ts[i]? with
  |none=>rw[ez] at hx;cases hx
  |some t=>
   rw[ez] at hx
   obtain rfl:V.ref t=x:=Option.some.inj hx
   obtain⟨c,ec,hc⟩:=KM.Paired.at hts2 ez
   have hi:=(List.getElem?_eq_some_iff.mp ez).1
   have hcl:=hlt c (List.mem_of_getElem? ec)
   have et:cs.take (i+1)=cs.take i++[c]:=by rw[List.take_succ,ec];rfl
   have eg:=ajE ms (cs.take i) [] c
   rw[←et] at eg
   have gin:∀d∈gr ms [] (cs.take i),d.1<ms.length:=fun d hd=>by
    rcases aiJ ms _ _ d hd with z | z
    ·cases z
    ·exact hlt d (List.mem_of_mem_take z)
   generalize gr ms [] (cs.take i)=ps at hus eg gin
   have lu:us.length=ps.length:=Paired.length hus
   have hne:p≠P1:=fun e=>by
    rw[e,h2P] at h2
    have:=congrArg (fun o:Option HO=>match o with | some (.lst l)=>l.length | _=>0) h2
    simp only[List.length_map] at this
    omega
   refine⟨_,rfl,P1,rfl,⟨_,SqL.of h2P⟩,aa3 (xs:=us.map V.ref) (fun k l=>l=((ps.take k).map (abA ms c)).map V.bl) (by rw[List.length_map,sizeLine_eq];have:=Paired.length hts;omega) rfl (SqL.of h2P) ?st ?dn⟩
   case st=>
    intro k y l D3 H3 E' F' hy hR hD3 s3 hz3 hE hF
    subst hR
    rw[List.getElem?_map] at hy
    cases ey:us[k]? with
    |none=>rw[ey] at hy;cases hy
    |some w=>
     rw[ey] at hy
     obtain rfl:V.ref w=y:=Option.some.inj hy
     obtain⟨d,ed,hd⟩:=KM.Paired.at hus ey
     refine⟨_,rfl,_,rfl,_,rfl,t,w,a,c,d,ms,rfl,s3 _ _ hc,s3 _ _ hd,(s2.trans s3).seq hS,hn,hcl,gin d (List.mem_of_getElem? ed),hE _ _ (Same.refl _) ?_⟩
     rw[List.take_succ,ed,List.map_append,List.map_append]
     rfl
   case dn=>
    intro D3 H3 l hR hD3 s3 hz3
    subst hR
    rw[List.length_map,lu,List.take_length] at hz3
    refine⟨D3,ps.map (abA ms c),rfl,SqL.of hz3,_,rfl,?_⟩
    have ea:(ps.map (abA ms c)).any id=ps.any (abA ms c):=by rw[List.any_map];rfl
    rw[ea]
    cases ey:ps.any (abA ms c) with
    |true=>
     rw[ey,if_pos rfl] at eg
     refine adY ⟨_,us,rfl,s2.trans s3,s3 _ _ h2,s3 _ _ h2P,?_,hts2.keep s3.keep,by omega⟩
     rw[eg]
     exact hus.keep s3.keep
    |false=>
     rw[ey,if_neg (by decide)] at eg
     have h3P:=s3 _ _ h2P
     refine aiD ⟨_,rfl,.inl ⟨rfl,_,SqL.of h3P⟩,_,rfl,P1,_,_,rfl,rfl,h3P,(by rw[List.length_map,sizeLine_eq];have:=Paired.length hts;omega),?_⟩
     have kp:=s3.keep.trans (ac1 (l':=us.map V.ref++[.ref t]) h3P)
     refine⟨_,us++[t],rfl,ab8 hP1 (s2.trans s3),by rw[aaF hne];exact s3 _ _ h2,by rw[List.map_append];exact aaA,?_,hts2.keep kp,by rw[List.length_append,List.length_singleton];omega⟩
     rw[eg]
     exact aeN (hus.keep kp) (.cons (kp.tup hc) .nil)
theorem ahQ:Df P w K mg base "rows_for" 6 ["times"] (ahC K):=by
 refine ZZ.F_rows_for.dfs sc_rows_for (fun vs H Q E h=>?_) (fun f cdv A outer s H vs Q E hr h=>?_)
 ·obtain⟨ms,rfl,hM,q⟩:=h
  rfl
 obtain⟨ms,rfl,hM,q⟩:=h
 refine⟨_,(ssC (aa6 1 (eD (aeV ZZ) hr (aC (v_ 0) aN)) sc_rows_for.nd)
   (ssC (aa6 2 (eD (ad1 ZZ) hr (aC (v_ 1) (aC (eGl (v:=.int 60) ZZ.m_HOUR_MINUTES ⟨_,rfl⟩) aN))) sc_rows_for.nd)
   (ss1 (aa1 (alO (aC (eD (afN ZZ) hr (aC (v_ 1) (aC (v_ 2) aN))) (aC (eD (aeS ZZ) hr (aC (v_ 1) aN)) aN))))))),?_⟩
 have hn:∀o∈ms,0<=o:=fun o ho=>(hM.bd o ho).1
 have l63:ms.length<=63:=by rw[hM.len];decide
 refine⟨_,rfl,ms,rfl,hM,fun p H1 s1 hp=>⟨_,rfl,p,ms,60,rfl,SqL.of hp,hn,l63,by decide,fun p2 H2 s2 hp2=>?_⟩⟩
 refine⟨_,rfl,_,rfl,p,p2,ms,aaU ms,rfl,SqL.of (s2 _ _ hp),SqL.of hp2,l63,by rw[ab3];decide,fun p3 ts rows L L' H3 n3 s3 h3 hts hL hL' hr=>⟨_,rfl,p,ms,rfl,SqL.of (s3 _ _ (s2 _ _ hp)),hM,fun p4 us L2 os H4 n4 s4 hL2 hos h4 hus=>⟨(by show 2<=sizeLine;decide),fun t ht=>?_⟩⟩⟩
 have s12:=s1.trans s2
 have s5:=aaB ht (.tup [.ref p3,.ref p4])
 refine q t p3 p4 ts us rows _ _ (s12.trans (s3.trans (s4.trans s5))) (s12.free n3) ((s12.trans s3).free n4) (fun e=>by rw[←e,h3] at n4;cases n4) aaA (s5 _ _ (s4 _ _ h3)) (abL (s4.trans s5).keep hts) (s5 _ _ h4) (hus.keep s5.keep) ⟨?_,fun M hM'=>?_,fun M hM'=>?_,ak4 hM (al6 hos),L2,os,hL2,hos,rfl⟩
 ·rcases hr with ⟨rfl,_⟩ | ⟨rfl,_⟩
  ·exact aqT hM hL
  ·exact aqA hM hL'
 ·have z:=NM.len hL hM'
  rcases hr with ⟨rfl,c⟩ | ⟨rfl,c⟩
  ·unfold ae8;rw[List.length_map];exact z
  ·unfold aeW;rw[List.length_map];omega
 ·have z:=NM.len hL' hM'
  rcases hr with ⟨rfl,c⟩ | ⟨rfl,c⟩
  ·unfold ae8;rw[List.length_map];omega
  ·unfold aeW;rw[List.length_map];exact z
theorem aa7:Df P w K mg base "_law_cell_at" 1 ["_law_script","_law_k"] (adT K):=by
 refine ZZ.F__law_cell_at.dfs adV (fun vs H Q E h=>?_) (fun f cdv A outer s H vs Q E hr h=>?_)
 ·obtain⟨a,k,rfl,⟨ns,hS⟩,⟨h0,h9⟩,q⟩:=h
  rfl
 obtain⟨a,k,rfl,⟨ns,hS⟩,⟨h0,h9⟩,q⟩:=h
 refine⟨_,(ssC (sIf (tCm oLt (v_ 1) (eCB agT ZZ.z_len PySem.boot_len (aC (v_ 0) aN))) (ss1 (aa1 (eIx xL (v_ 0) (v_ 1)))) ssN)
   (ss1 (aa1 (eOp adK (eOp ae9 (eOp ap6 (eOp ad7 (v_ 1) eI) eI) eI) eI)))),?_⟩
 refine⟨_,rfl,_,rfl,a,_,rfl,.inl hS,_,_,rfl,rfl,_,rfl,?_⟩
 refine ifD (fun c=>?_) (fun c=>?_)
 ·rw[List.length_map] at c
  have hk:k.toNat<ns.length:=by omega
  have ek:k=((k.toNat:Nat):Int):=by omega
  have e:atI (ns.map V.int) k=some (.int ns[k.toNat]):=by
   have z:atI (ns.map V.int) ((k.toNat:Nat):Int)=some (.int ns[k.toNat]):=acH (by rw[List.getElem?_map,List.getElem?_eq_getElem hk];rfl)
   rw[←ek] at z
   exact z
  refine⟨_,rfl,_,rfl,a,_,_,_,rfl,rfl,hS,e,?_⟩
  exact q _
 ·refine⟨_,rfl,_,_,rfl,rfl,_,_,rfl,rfl,⟨by decide,by decide,(by show (k+2).natAbs<2^64;omega)⟩,_,_,rfl,rfl,.inr ⟨by decide,by decide⟩,_,_,rfl,rfl,(by show (0:Int)<15485863;decide),?_⟩
  exact q _
theorem agQ:Df P w K mg base "_law_stir" 1 ["_law_number"] (agY K):=by
 refine ZZ.F__law_stir.dfs sc__law_stir (fun vs H Q E h=>?_) (fun f cdv A outer s H vs Q E hr h=>?_)
 ·obtain⟨n,rfl,q⟩:=h
  rfl
 obtain⟨n,rfl,q⟩:=h
 refine⟨_,(ssC (aa6 1 (eOp adK (eOp ae9 (eOp ad7 (eOp adK (v_ 0) (eOp ap6 eI eI)) eI) eI) eI) sc__law_stir.nd)
   (ssC (aa6 2 (eOp adK (eOp ae9 (v_ 1) (eOp ad7 (eOp adK (v_ 1) eI) eI)) eI) sc__law_stir.nd)
   (ss1 (aa1 (eOp adK (eOp ae9 (v_ 2) (eOp ad7 (eOp adK (v_ 2) eI) eI)) eI))))),?_⟩
 refine⟨_,rfl,_,_,rfl,rfl,⟨by decide,by decide,by decide⟩,_,_,rfl,rfl,(by rw[arW];show (0:Int)<_;decide),_,_,rfl,rfl,_,_,rfl,rfl,.inr ⟨by decide,by decide⟩,_,_,rfl,rfl,(by show (0:Int)<4294967291;decide),?_⟩
 refine⟨_,rfl,_,rfl,_,_,rfl,rfl,(by show (0:Int)<65521;decide),_,_,rfl,rfl,_,_,rfl,rfl,arO (by decide) (by decide),_,_,rfl,rfl,(by show (0:Int)<999999937;decide),?_⟩
 refine⟨_,rfl,_,rfl,_,_,rfl,rfl,(by show (0:Int)<32749;decide),_,_,rfl,rfl,_,_,rfl,rfl,arO (by decide) (by decide),_,_,rfl,rfl,(by show (0:Int)<2147483629;decide),?_⟩
 exact q _ (Int.emod_nonneg _ (by decide)) (Int.emod_lt_of_pos _ (by decide))
theorem abZ:Df P w K mg base "_law_digits" 2 ["_law_cell","_law_sizes","_law_mixed"] (aeJ K):=by
 refine ZZ.F__law_digits.dfs sc__law_digits (fun vs H Q E h=>?_) (fun f cdv A outer s H vs Q E hr h=>?_)
 ·obtain⟨c,a,b,ss,rfl,hS,hz,hl,q⟩:=h
  rfl
 obtain⟨c,a,b,ss,rfl,hS,hz,hl,q⟩:=h
 refine⟨_,(ssC (aa6 3 (agZ aN) sc__law_digits.nd)
   (ssC (aa6 2 (eOr (v_ 2) (ap1 (akQ oLt (eCB cAbs ZZ.z_abs PyProof.Rows.boot_abs (aC (v_ 0) aN)) (eOp ap6 eI eI)))) sc__law_digits.nd)
   (ssC (ahH (iL (v_ 1)) (gN 4 sc__law_digits.nd) (ss1 (sIf (tVa (v_ 2)) (ssC (aa6 0 (eD (agQ ZZ) hr (aC (v_ 0) aN)) sc__law_digits.nd)
   (ss1 (an9 (apM (v_ 3) (eOp adK (eOp oDiv (v_ 0) eI) (v_ 4)))))) (ssC (an9 (apM (v_ 3) (eOp adK (v_ 0) (v_ 4))))
   (ss1 (aa6 0 (eOp asO (v_ 0) (v_ 4)) sc__law_digits.nd))))) PassesOwn.never)
   (ss1 (aa1 (v_ 3)))))),?_⟩
 refine⟨(by show 0<=sizeLine;decide),fun fl hfl=>?_⟩
 refine⟨_,rfl,_,rfl,asA (fun _=>?_) (fun _=>⟨_,rfl,_,rfl,_,_,rfl,rfl,⟨by decide,by decide,by decide⟩,_,_,rfl,rfl,?_⟩)⟩
 all_goals
  refine⟨_,rfl,a,rfl,⟨_,(aaB hfl _).seq hS⟩,acC (K:=K) (a:=a) (xs:=ss.map V.int) (fun i σ H2=>∃(c':Int) (b':Bool) (u:Option V) (ds:List Int),σ=[some (.int c'),some (.ref a),some (.bl b'),some (.ref fl),u]/\Same H H2/\H2 fl=some (.lst (ds.map V.int))/\Digs ds (ss.take i)) ⟨_,_,_,[],rfl,aaB hfl _,aaA,.nil⟩ (fun i σ H2 _ ⟨_,_,_,_,_,s2,_⟩=>s2.seq hS) ?_ ?_⟩
  ·rintro i x σ H2 hx ⟨c',b',u,ds,rfl,s2,hf,hd⟩
   rw[List.getElem?_map] at hx
   cases e:ss[i]? with
   |none=>rw[e] at hx;cases hx
   |some z=>
    rw[e] at hx
    obtain rfl:V.int z=x:=Option.some.inj hx
    have hzz:=hz z (List.mem_of_getElem? e)
    have et:ss.take (i+1)=ss.take i++[z]:=by rw[List.take_succ,e];rfl
    have hdl:(ds.map V.int).length<sizeLine:=by
     have q1:=hd.len
     rw[List.length_take] at q1
     rw[List.length_map,sizeLine_eq]
     omega
    have app:∀d:Int,(ds.map V.int)++[V.int d]=(ds++[d]).map V.int:=fun d=>by rw[List.map_append];rfl
    refine⟨_,rfl,_,rfl,?_⟩
    cases b' with
    |true=>
     refine aiD ⟨_,rfl,_,rfl,fun r hr0 hr1=>?_⟩
     refine⟨_,rfl,.inl ⟨rfl,_,SqL.of hf⟩,_,rfl,_,_,rfl,rfl,⟨by decide,by decide⟩,_,rfl,_,_,rfl,rfl,hzz.1,fl,_,_,rfl,rfl,hf,hdl,?_⟩
     refine⟨_,_,_,ds++[r / 8%z],rfl,ab8 hfl s2,by rw[app];exact aaA,?_⟩
     rw[et]
     exact hd.snoc (Int.emod_nonneg _ (Int.ne_of_gt hzz.1)) (Int.emod_lt_of_pos _ hzz.1)
    |false=>
     refine adY ⟨_,rfl,.inl ⟨rfl,_,SqL.of hf⟩,_,rfl,_,rfl,_,_,rfl,rfl,hzz.1,fl,_,_,rfl,rfl,hf,hdl,?_⟩
     refine⟨_,rfl,_,rfl,_,_,rfl,rfl,⟨hzz.1,by omega⟩,?_⟩
     refine⟨_,_,_,ds++[c'%z],rfl,ab8 hfl s2,by rw[app];exact aaA,?_⟩
     rw[et]
     exact hd.snoc (Int.emod_nonneg _ (Int.ne_of_gt hzz.1)) (Int.emod_lt_of_pos _ hzz.1)
  ·rintro σ H2 ⟨c',b',u,ds,rfl,s2,hf,hd⟩
   rw[List.length_map,List.take_length] at hd
   exact⟨_,rfl,q ds fl H2 s2 hf hd⟩
theorem ad2:Df P w K mg base "_law_parts" 1 ["_law_cuts","_law_some","_law_at","_law_deep"] (fun _ _ _ _=>False):=ZZ.F__law_parts.dfs sc__law_parts (fun _ _ _ _ h=>h.elim) (fun _ _ _ _ _ _ _ _ _ _ h=>h.elim)
theorem aaW{k0:Nat}{sp0:Sp}(D0:Df P w K mg base "_law_parts" k0 ["_law_cuts","_law_some","_law_at","_law_deep"] sp0)(d:Nat)(hd:∀e,d=e+1->sp0=spr e K):Df P w K mg base "_law_parts" (k0+1) ["_law_cuts","_law_some","_law_at","_law_deep"] (spr d K):=by
 refine ZZ.F__law_parts.dfs sc__law_parts (fun vs H Q E h=>?_) (fun f cdv A outer s H vs Q E hr h=>?_)
 ·obtain⟨ca,sa,cs,xs,i,rfl,_⟩:=h
  rfl
 obtain⟨ca,sa,cs,xs,i,rfl,hSc,hSx,hc,hx,hb,q⟩:=h
 refine⟨_,(ssC (aa6 4 (agZ (aC (v_ 1) aN)) sc__law_parts.nd)
   (ssC (sIf (tW (ar6 (tCm oGt (v_ 3) eI) (ao0 (tCm oGt (eCB agT ZZ.z_len PySem.boot_len (aC (v_ 1) aN)) eI)))) (ssC (aa6 5 (eOp ad7 eI (eOp adK (eIx xL (v_ 0) (eOp ae9 eI (v_ 2))) (eOp amT (eCB agT ZZ.z_len PySem.boot_len (aC (v_ 1) aN)) eI))) sc__law_parts.nd)
   (ssC (aa6 6 (eIx xL (v_ 0) (eOp ad7 (eOp ae9 eI (v_ 2)) eI)) sc__law_parts.nd)
   (ssC (aa6 4 (eOp ai2 (v_ 4) (eDs D0 hr (aC (v_ 0) (aC (eSl slL (v_ 1) poN (poS (v_ 5))) (aC (eOp ad7 (eOp ae9 eI (v_ 2)) eI) (aC (eOp amT (v_ 3) eI) aN)))))) sc__law_parts.nd)
   (ss1 (aa6 4 (eOp ai2 (v_ 4) (eDs D0 hr (aC (v_ 0) (aC (eSl slL (v_ 1) (poS (eOp ad7 (v_ 5) (v_ 6))) poN) (aC (eOp ad7 (eOp ae9 eI (v_ 2)) eI) (aC (eOp amT (v_ 3) eI) aN)))))) sc__law_parts.nd))))) ssN)
   (ss1 (aa1 (acR [] [] (iL (v_ 4)) (fun _ _ _ _ _ _=>(fs1 (tCm oGt (eCB (aoU (K:=K)) ZZ.z_len PySem.boot_len (aC (v_ 0) aN)) eI))) (fun _ _ _ _ _ _=>(v_ 0))))))),?_⟩
 have hpd:1<=2^d:=Nat.one_le_two_pow
 have hp16:2*2^d<=16:=Nat.le_trans (Nat.mul_le_mul_right (2^d) (show 2<=i+2 by omega)) hb
 have hps:2^(d+1)=2^d*2:=Nat.pow_succ ..
 refine⟨_,rfl,(by show 1<=sizeLine;decide),fun l0 hl0=>?_⟩
 have s0:=aaB hl0 (.lst [V.ref sa])
 have leaf:Fam xs [xs] (2^(d+1)-1):=⟨(aeD xs).sub,(aeD xs).lam,Nat.le_trans (aeD xs).len (by omega)⟩
 have t0:∀{Hx:Hp},SqL K Hx sa (xs.map V.int)->LsT K Hx [sa] [xs]:=fun h=>.cons h .nil
 have hl0':∀o:HO,o=.lst [V.ref sa]->upd H l0 o l0=some (.lst (([sa]:List Addr).map V.ref)):=fun o e=>by rw[e];exact aaA
 refine⟨_,rfl,_,_,rfl,rfl,_,rfl,ifD (fun c=>⟨_,rfl,sa,_,rfl,.inl (s0.seq hSx),_,_,rfl,rfl,_,rfl,ifD (fun c2=>?_) (fun _=>?_)⟩) (fun _=>?_)⟩
 focus
  obtain⟨e,rfl⟩:∃e,d=e+1:=⟨d-1,by omega⟩
  obtain rfl:=hd e rfl
  rw[List.length_map] at c2
  have hpe:2^(e+1)=2^e*2:=Nat.pow_succ ..
  have hpe1:1<=2^e:=Nat.one_le_two_pow
  have hb2:(2*i+4)*2^e<=16:=by
   have:(i+2)*2^(e+1)=(2*i+4)*2^e:=by rw[hpe,Nat.mul_comm (2^e) 2,←Nat.mul_assoc,show (i+2)*2=2*i+4 by omega]
   omega
  have hb1:(2*i+3)*2^e<=16:=Nat.le_trans (Nat.mul_le_mul_right _ (by omega)) hb2
  have hi:2*i+4<=16:=Nat.le_trans (Nat.le_mul_of_pos_right _ hpe1) hb2
  obtain⟨c1,e1,hc1⟩:∃c1:Int,atI (cs.map V.int) (2*(i:Int))=some (.int c1)/\0<=c1:=⟨gd cs (2*i),by rw[show (2*(i:Int))=((2*i:Nat):Int) by omega];exact acM (by omega),hc.2 _ (abP (by omega))⟩
  obtain⟨k2,e2⟩:∃k2:Nat,atI (cs.map V.int) (2*(i:Int)+1)=some (.int (k2:Int)):=by
   have h0:=hc.2 _ (abP (ms:=cs) (i:=2*i+1) (by omega))
   obtain⟨k2,ek⟩:=Int.eq_ofNat_of_zero_le h0
   exact⟨k2,by rw[show (2*(i:Int)+1)=((2*i+1:Nat):Int) by omega,acM (ms:=cs) (by omega),ek]⟩
  obtain⟨k,ek,hk⟩:∃k:Nat,1+c1%(((xs.map V.int).length:Int)-1)=(k:Int)/\k<=xs.length:=by
   rw[List.length_map]
   have a1:=Int.emod_nonneg c1 (show ((xs.length:Int)-1)≠0 by omega)
   have a2:=Int.emod_lt_of_pos c1 (show 0<((xs.length:Int)-1) by omega)
   exact⟨(1+c1%((xs.length:Int)-1)).toNat,by omega,by omega⟩
  refine⟨_,rfl,_,rfl,_,_,rfl,rfl,.inl ⟨by decide,by decide⟩,ca,_,_,_,rfl,rfl,s0.seq hSc,e1,_,rfl,sa,_,rfl,.inl (s0.seq hSx),_,_,rfl,rfl,_,_,rfl,rfl,(by show (0:Int)<((xs.map V.int).length:Int)-1;rw[List.length_map];omega),_,_,rfl,rfl,?_⟩
  show acZ 5 (V.int (1+c1%(((xs.map V.int).length:Int)-1))) _ _ _
  rw[ek]
  refine⟨_,rfl,_,rfl,_,_,rfl,rfl,.inl ⟨by decide,by decide⟩,_,_,rfl,rfl,ca,_,_,_,rfl,rfl,s0.seq hSc,e2,?_⟩
  have ct:=anX (xs.map V.int) (k:=k) (by rw[List.length_map];exact hk)
  rw[←List.map_take] at ct
  refine⟨_,rfl,_,rfl,_,rfl,_,rfl,_,rfl,sa,_,rfl,s0.seq hSx,fun p1 hp1=>?_⟩
  have s1:=s0.trans (aaB hp1 (.lst (acI (xs.map V.int) none (some (k:Int)))))
  refine⟨_,rfl,_,_,rfl,rfl,.inl ⟨by decide,by decide⟩,_,_,rfl,rfl,_,rfl,_,_,rfl,rfl,ca,p1,cs,xs.take k,2*i+1,(show [V.ref ca,V.ref p1,V.int (2*(i:Int)+1),V.int (((e+1:Nat):Int)-1)]=[.ref ca,.ref p1,.int ((2*i+1:Nat):Int),.int (e:Nat)] by rw[show (2*(i:Int)+1)=((2*i+1:Nat):Int) by omega,show (((e+1:Nat):Int)-1)=(e:Int) by omega]),s1.seq hSc,SqL.of (by rw[←ct];exact aaA),hc,⟨hx.1.sublist (List.take_sublist _ _),by rw[List.length_take];omega⟩,hb1,fun q1 ts1 ys1 H1 sq1 hq1 ht1 f1=>?_⟩
  have s2:=s1.trans sq1
  have n1:ts1.length<=15:=by rw[Paired.length ht1];have:=f1.len;omega
  refine⟨l0,q1,_,_,rfl,rfl,SqL.of (((aaB hp1 _).trans sq1) _ _ (hl0' _ rfl)),SqL.of hq1,(by rw[List.length_map,List.length_map,sizeLine_eq,List.length_singleton];omega),fun l1 hl1=>?_⟩
  have s3:=s2.trans (aaB hl1 (.lst (([sa]:List Addr).map V.ref++ts1.map V.ref)))
  have cf:=ah7 (xs.map V.int) (k+k2)
  rw[←List.map_drop] at cf
  have ekk:((k:Int)+(k2:Int))=((k+k2:Nat):Int):=by omega
  refine⟨_,rfl,_,rfl,_,rfl,_,rfl,_,rfl,_,_,rfl,rfl,_,rfl,sa,_,rfl,s3.seq hSx,fun p2 hp2=>?_⟩
  have s4:=s3.trans (aaB hp2 (.lst (acI (xs.map V.int) (some ((k:Int)+(k2:Int))) none)))
  refine⟨_,rfl,_,_,rfl,rfl,.inl ⟨by decide,by decide⟩,_,_,rfl,rfl,_,rfl,_,_,rfl,rfl,ca,p2,cs,xs.drop (k+k2),2*i+2,(show [V.ref ca,V.ref p2,V.int (2*(i:Int)+2),V.int (((e+1:Nat):Int)-1)]=[.ref ca,.ref p2,.int ((2*i+2:Nat):Int),.int (e:Nat)] by rw[show (2*(i:Int)+2)=((2*i+2:Nat):Int) by omega,show (((e+1:Nat):Int)-1)=(e:Int) by omega]),s4.seq hSc,SqL.of (by rw[←cf,←ekk];exact aaA),hc,⟨hx.1.sublist (List.drop_sublist _ _),by rw[List.length_drop];omega⟩,hb2,fun q2 ts2 ys2 H2 sq2 hq2 ht2 f2=>?_⟩
  have s5:=s4.trans sq2
  have n2:ts2.length<=15:=by rw[Paired.length ht2];have:=f2.len;omega
  have s15:=(aaB hl1 (.lst (([sa]:List Addr).map V.ref++ts1.map V.ref))).trans ((aaB hp2 (.lst (acI (xs.map V.int) (some ((k:Int)+(k2:Int))) none))).trans sq2)
  refine⟨l1,q2,_,_,rfl,rfl,SqL.of (((aaB hp2 _).trans sq2) _ _ aaA),SqL.of hq2,(by rw[List.length_append,List.length_map,List.length_map,List.length_map,sizeLine_eq,List.length_singleton];omega),fun lf hlf=>?_⟩
  have s6:=aaB hlf (.lst ((([sa]:List Addr).map V.ref++ts1.map V.ref)++ts2.map V.ref))
  have sf:=s5.trans s6
  have hf:upd H2 lf (.lst ((([sa]:List Addr).map V.ref++ts1.map V.ref)++ts2.map V.ref)) lf=some (.lst ((([sa]++ts1)++ts2).map V.ref)):=by rw[List.map_append,List.map_append];exact aaA
  have hts:=ad5 (ad5 (t0 (sf.seq hSx)) (acB (s15.trans s6) ht1)) (acB s6 ht2)
  have fam:=amL hx.1 (Nat.le_add_right k k2) f1 f2
  have e3:2*(2^(e+1)-1)+1=2^(e+1+1)-1:=by omega
  rw[e3] at fam
  generalize ([sa]++ts1)++ts2=tsf at hf hts
  generalize ([xs]++ys1)++ys2=ysf at hts fam
 rotate_left
 focus
  obtain⟨lf,elf⟩:∃lf,lf=l0:=⟨_,rfl⟩
  have sf:=s0
  have hf:=hl0' _ rfl
  have hts:=t0 (s0.seq hSx)
  have fam:=leaf
  rw[←elf] at hf
  subst elf
  generalize ([sa]:List Addr)=tsf at hf hts
  generalize ([xs]:List (List Int))=ysf at hts fam
 rotate_left
 focus
  obtain⟨lf,elf⟩:∃lf,lf=l0:=⟨_,rfl⟩
  have sf:=s0
  have hf:=hl0' _ rfl
  have hts:=t0 (s0.seq hSx)
  have fam:=leaf
  rw[←elf] at hf
  subst elf
  generalize ([sa]:List Addr)=tsf at hf hts
  generalize ([xs]:List (List Int))=ysf at hts fam
 all_goals
  refine⟨_,rfl,lf,rfl,⟨_,SqL.of hf⟩,aa3 (xs:=tsf.map V.ref) (fun j l=>∃ts':List Addr,l=ts'.map V.ref/\∀Hx,LsT K Hx tsf ysf->LsT K Hx ts' ((ysf.take j).filter aoH)) (by rw[List.length_map,Paired.length hts,sizeLine_eq];have:=fam.len;omega) ⟨[],rfl,fun _ _=>.nil⟩ (SqL.of hf) ?_ ?_⟩
  ·intro j v l D3 H3 E' F' hv ⟨ts',el,hR⟩ hD s3 hz hE hF
   rw[List.getElem?_map] at hv
   cases ez:tsf[j]? with
   |none=>rw[ez] at hv;cases hv
   |some t=>
    rw[ez] at hv
    obtain rfl:V.ref t=v:=Option.some.inj hv
    obtain⟨ys,ey,ht⟩:=KM.Paired.at (acB s3 hts) ez
    have et:ysf.take (j+1)=ysf.take j++[ys]:=by rw[List.take_succ,ey];rfl
    refine⟨_,rfl,t,_,rfl,.inl ht,_,_,rfl,rfl,_,rfl,ifD (fun c=>⟨_,rfl,hE _ _ (Same.refl _) ⟨ts'++[t],by rw[el,List.map_append];rfl,fun Hx hx=>?_⟩⟩) (fun c=>hF _ (Same.refl _) ⟨ts',el,fun Hx hx=>?_⟩)⟩
    ·rw[List.length_map] at c
     have hy:aoH ys=true:=decide_eq_true (by omega)
     obtain⟨ys',ey',ht'⟩:=KM.Paired.at hx ez
     rw[ey] at ey'
     cases ey'
     rw[et,List.filter_append,akI,if_pos hy]
     exact ad5 (hR Hx hx) (.cons ht' .nil)
    ·rw[List.length_map] at c
     have hy:¬aoH ys=true:=fun z=>by have:=of_decide_eq_true z;omega
     rw[et,List.filter_append,akI,if_neg hy,List.append_nil]
     exact hR Hx hx
  ·intro D3 H3 l ⟨ts',el,hR⟩ hD s3 hz
   subst el
   have hr3:=hR H3 (acB s3 hts)
   rw[List.length_map,Paired.length hts,List.take_length] at hr3
   exact q D3 ts' _ H3 (sf.trans s3) hz hr3 fam.flt
theorem afC:Df P w K mg base "_law_parts" 5 ["_law_cuts","_law_some","_law_at","_law_deep"] (afO K):=
 aaW ZZ (aaW ZZ (aaW ZZ (aaW ZZ (ad2 ZZ) 0 (fun e he=>absurd he.symm (Nat.succ_ne_zero e))) 1 (fun e he=>congrArg (fun z=>spr z K) (Nat.succ.inj he))) 2 (fun e he=>congrArg (fun z=>spr z K) (Nat.succ.inj he))) 3 (fun e he=>congrArg (fun z=>spr z K) (Nat.succ.inj he))
theorem afH:Df P w K mg base "_law_masks" 6 ["_law_script","_law_mixed"] (afB K):=by
 refine ZZ.F__law_masks.dfs sc__law_masks (fun vs H Q E h=>?_) (fun f cdv A outer s H vs Q E hr h=>?_)
 ·obtain⟨a,b,rfl,hS,q⟩:=h
  rfl
 obtain⟨a,b,rfl,hS,q⟩:=h
 refine⟨_,(ssC (aa6 2 (eD (abZ ZZ) hr (aC (eD (aa7 ZZ) hr (aC (v_ 0) (aC eI aN))) (aC (eOp ai2 (agZ (aC eI (aC eI (aC eI aN)))) (eOp alA (agZ (aC eI (aC eI aN))) eI)) (aC (v_ 1) aN)))) sc__law_masks.nd)
   (ssC (ajJ 3 ["_law_parts_here"] [2] (iR1 ZZ.z_range (aC (eOp ad7 eI (eIx xL (v_ 2) eI)) aN)) (fun _ _ _ _ _ _=>fsN) (fun _ _ _ _ _ _=>(eOp adK (eOp ad7 (eIx (xLc (K:=K)) (v_ 1) eI) (eOp ae9 (v_ 0) (eIx (xLc (K:=K)) (agZ (ar9 [1,7,11,13])) (eIx (xLc (K:=K)) (v_ 1) eI)))) eI)) sc__law_masks.nd)
   (ssC (aa6 4 (eOp ai2 (ak3 ["_law_part"] [] [] (iL (eD (afC ZZ) hr (aC (eSl slL (v_ 2) (poS eI) poN) (aC (v_ 3) (aC eI (aC eI aN)))))) (fun _ _ _ _ _ _ hh=>gN 0 (show ((["_law_part"]:List Str)++([]:List Str)).Nodup by decide +kernel)) (fun _ _ _ _ _ _ hh=>fsN) (fun _ _ _ _ _ _ hh=>(eCB (asX (K:=K)) ZZ.z_sum PyProof.Rows.boot_sum (aC (acR [] [] (iLc (K:=K) (v_ 0)) (fun _ _ _ _ _ _=>fsN) (fun _ _ _ _ _ _=>(eOp an8 eI (v_ 0))) (hcl:=ai5 hh rfl rfl rfl rfl)) aN)))) (agZ (aC eI aN))) sc__law_masks.nd)
   (ss1 (aa1 (acR ["_law_pool"] [4] (iL (eD (abZ ZZ) hr (aC (eD (aa7 ZZ) hr (aC (v_ 0) (aC eI aN))) (aC (eOp alA (agZ (aC eI aN)) eI) (aC (v_ 1) aN))))) (fun _ _ _ _ _ _=>fsN) (fun _ _ _ _ _ _=>(eIx (xLc (K:=K)) (v_ 1) (eOp adK (v_ 0) (eCB (aoU (K:=K)) ZZ.z_len PySem.boot_len (aC (v_ 1) aN))))))))))),?_⟩
 obtain⟨ns,hS⟩:=hS
 refine⟨_,rfl,a,_,rfl,⟨ns,hS⟩,⟨by decide,by decide⟩,fun c1=>⟨(by show 3<=sizeLine;decide),fun l1 hl1=>⟨(by show 2<=sizeLine;decide),fun l2 hl2=>⟨l2,7,_,rfl,rfl,aaA,by decide,by decide,(by show 2*7<=sizeLine;decide),fun l3 hl3=>?_⟩⟩⟩⟩
 have s23:=(aaB hl2 (.lst [V.int 60,V.int 2])).trans (aaB hl3 (.lst (List.replicate (7:Int).toNat [V.int 60,V.int 2]).flatten))
 have s3:=(aaB hl1 (.lst [V.int 60,V.int 4,V.int 60])).trans s23
 refine⟨l1,l3,_,_,rfl,rfl,SqL.of (s23 _ _ aaA),SqL.of aaA,(by show 3+14<=sizeLine;decide),fun l4 hl4=>?_⟩
 have s4:=s3.trans (aaB hl4 (.lst (S17b.map V.int)))
 refine⟨_,rfl,c1,l4,b,S17b,rfl,SqL.of aaA,(by decide),(by decide),fun ds pd H1 s1 hpd hd=>?_⟩
 have s5:=s4.trans s1
 obtain⟨z0,ez0,hz0⟩:=ad3 hd (show S17b[0]? =some 60 from rfl)
 obtain⟨z1,ez1,hz1⟩:=ad3 hd (show S17b[1]? =some 4 from rfl)
 obtain⟨z2,ez2,hz2⟩:=ad3 hd (show S17b[2]? =some 60 from rfl)
 have e0:atI (ds.map V.int) 0=some (.int z0):=acH (j:=0) (by rw[List.getElem?_map,ez0];rfl)
 have e1:atI (ds.map V.int) 1=some (.int z1):=acH (j:=1) (by rw[List.getElem?_map,ez1];rfl)
 have e2:atI (ds.map V.int) 2=some (.int z2):=acH (j:=2) (by rw[List.getElem?_map,ez2];rfl)
 obtain⟨st,est,hst⟩:∃st:Int,atI (([1,7,11,13]:List Int).map V.int) z1=some (.int st)/\(st=1∨st=7∨st=11∨st=13):=by
  have:z1=0∨z1=1∨z1=2∨z1=3:=by omega
  rcases this with rfl | rfl | rfl | rfl
  ·exact⟨1,rfl,by omega⟩
  ·exact⟨7,rfl,by omega⟩
  ·exact⟨11,rfl,by omega⟩
  ·exact⟨13,rfl,by omega⟩
 have en:(1+z2).toNat<=60:=by omega
 refine⟨_,rfl,pd,_,_,_,rfl,rfl,SqL.of hpd,e2,_,_,rfl,rfl,_,rfl,(by omega),(by omega),abE (fun i z=>z=((List.range i).map fun i:Nat=>(z0+(0+(i:Int))*st)%60).map V.int) (by rw[sizeLine_eq];omega) rfl ?_ ?_⟩
 ·intro i z D3 H3 E' F' hi hR hD s6 hz hE hF
  subst hR
  have hi:i<(1+z2).toNat:=hi
  refine⟨_,rfl,pd,_,_,_,rfl,rfl,SqL.of (s6 _ _ hpd),e0,_,rfl,(by show 4<=sizeLine;decide),fun l hl=>⟨_,rfl,pd,_,_,_,rfl,rfl,SqL.of ((aaB hl _) _ _ (s6 _ _ hpd)),e1,l,_,_,_,rfl,rfl,SqL.of aaA,est,_,_,rfl,rfl,.inl ⟨by omega,by omega⟩,_,_,rfl,rfl,_,_,rfl,rfl,(by show (0:Int)<60;decide),hE _ _ (aaB hl _) ?_⟩⟩
  rw[List.range_succ,List.map_append,List.map_append]
  rfl
 intro so H3 l hR hD s6 hso
 subst hR
 have hxn:=ag6 (a:=z0) hst en
 have hxb:∀z∈(List.range (1+z2).toNat).map (fun i:Nat=>(z0+(0+(i:Int))*st)%60),0<=z/\z<60:=fun z hz=>by
  obtain⟨i,_,rfl⟩:=List.mem_map.mp hz
  exact⟨Int.emod_nonneg _ (by decide),Int.emod_lt_of_pos _ (by decide)⟩
 have hxl:((List.range (1+z2).toNat).map (fun i:Nat=>(z0+(0+(i:Int))*st)%60)).length<=60:=by rw[List.length_map,List.length_range];exact en
 generalize (List.range (1+z2).toNat).map (fun i:Nat=>(z0+(0+(i:Int))*st)%60)=xs at hso hxn hxb hxl
 have s7:=s5.trans s6
 have hpd3:=s6 _ _ hpd
 refine⟨_,rfl,_,rfl,pd,_,rfl,SqL.of hpd3,fun p3 hp3=>?_⟩
 have s8:=aaB hp3 (.lst (acI (ds.map V.int) (some 3) none))
 have cf:acI (ds.map V.int) (some 3) none=(ds.drop 3).map V.int:=by
  have:=ah7 (ds.map V.int) 3
  rw[←List.map_drop] at this
  exact this
 have hdl:ds.length=17:=hd.len
 refine⟨_,rfl,p3,so,ds.drop 3,xs,0,rfl,SqL.of (by rw[←cf];exact aaA),SqL.of (s8 _ _ hso),⟨by rw[List.length_drop,hdl],fun c hc=>?_⟩,⟨hxn,hxl⟩,(by decide),fun pp ts yss H4 s9 hpp hts fam=>?_⟩
 ·obtain⟨j,hj⟩:=List.mem_iff_getElem?.mp (List.mem_of_mem_drop hc)
  have hjl:=(List.getElem?_eq_some_iff.mp hj).1
  obtain⟨w',ew,hw⟩:=ad3 hd (i:=j) (z:=S17b[j]'(by show j<17;omega)) (List.getElem?_eq_getElem _)
  rw[hj] at ew
  cases ew
  exact hw.1
 have s10:=s7.trans (s8.trans s9)
 have lts:ts.length=yss.length:=Paired.length hts
 have ly:=fam.len
 have hy0:∀ys∈yss,ys.Nodup/\(∀z∈ys,0<=z/\z<60)/\ys.length<=60:=fun ys hy=>⟨hxn.sublist (fam.sub ys hy),fun z hz=>hxb z ((fam.sub ys hy).subset hz),Nat.le_trans (fam.sub ys hy).length_le hxl⟩
 have ly:yss.length<=15:=ly
 refine⟨pp,rfl,⟨_,SqL.of hpp⟩,ahW (aa3 (xs:=ts.map V.ref) (fun i z=>z=((yss.take i).map aaI).map V.int) (by rw[List.length_map,sizeLine_eq];omega) rfl (SqL.of hpp) ?_ ?_)⟩
 ·intro i v l D3 H5 E' F' hv hR hD s11 hz hE hF
  subst hR
  rw[List.getElem?_map] at hv
  cases ez:ts[i]? with
  |none=>rw[ez] at hv;cases hv
  |some t=>
   rw[ez] at hv
   obtain rfl:V.ref t=v:=Option.some.inj hv
   obtain⟨ys,ey,ht⟩:=KM.Paired.at (acB s11 hts) ez
   obtain⟨y1,y2,y3⟩:=hy0 ys (List.mem_of_getElem? ey)
   refine⟨_,rfl,t,rfl,⟨_,ht⟩,aa3 (xs:=ys.map V.int) (fun i z=>z=((ys.take i).map fun d=>V.int (1*2^d.toNat))) (by rw[List.length_map,sizeLine_eq];omega) rfl ht ?_ ?_⟩
   ·intro j v l D4 H6 E2 F2 hv hR hD s12 hz2 hE2 hF2
    subst hR
    rw[List.getElem?_map] at hv
    cases ew:ys[j]? with
    |none=>rw[ew] at hv;cases hv
    |some d=>
     rw[ew] at hv
     obtain rfl:V.int d=v:=Option.some.inj hv
     have hd:=y2 d (List.mem_of_getElem? ew)
     exact⟨_,rfl,_,_,rfl,rfl,⟨hd.1,by omega,by decide⟩,hE2 _ _ (Same.refl _) (by rw[List.take_succ,ew,List.map_append];rfl)⟩
   ·intro D4 H6 l hR hD s12 hz2
    subst hR
    rw[List.length_map,List.take_length] at hz2
    refine⟨D4,ys.map fun d=>1*2^d.toNat,rfl,SqL.of (by rw[hz2,List.map_map];rfl),?_⟩
    rw[amM y1 (fun z hz=>(y2 z hz).1)]
    refine hE _ _ s12 ?_
    rw[List.take_succ,ey,List.map_append,List.map_append]
    rfl
 intro D5 H5 l hR hD s11 hz
 subst hR
 rw[List.length_map,lts,List.take_length] at hz
 refine⟨(by show 1<=sizeLine;decide),fun l5 hl5=>⟨D5,l5,_,_,rfl,rfl,SqL.of ((aaB hl5 _) _ _ hz),SqL.of aaA,(by rw[List.length_map,List.length_map,sizeLine_eq];show yss.length+1<=_;omega),fun pl hpl=>?_⟩⟩
 have s12:=(s10.trans s11).trans ((aaB hl5 (.lst [V.int 0])).trans (aaB hpl (.lst ((yss.map aaI).map V.int++[V.int 0]))))
 have lam:=aqJ fam (fun z hz=>(hxb z hz).1)
 have hpb:∀m∈yss.map aaI++[0],0<=m/\m<2^60:=fun m hm=>by
  rcases List.mem_append.mp hm with y | y
  ·obtain⟨ys,hys,rfl⟩:=List.mem_map.mp y
   exact⟨aaM _,KM.orAll_lt (n:=60) (fun z hz=>by have:=(hy0 ys hys).2.1 z hz;omega)⟩
  ·rw[List.mem_singleton.mp y];exact⟨by decide,by decide⟩
 have hpl':∀o:HO,o=.lst ((yss.map aaI).map V.int++[V.int 0])->∀Hx:Hp,upd Hx pl o pl=some (.lst ((yss.map aaI++[0]).map V.int)):=fun o e Hx=>by rw[e,List.map_append];exact aaA
 have hpp0:0<(yss.map aaI++[0]).length:=by rw[List.length_append];exact Nat.succ_pos _
 generalize yss.map aaI++[0]=ps at lam hpb hpl' hpp0
 refine⟨_,rfl,a,_,rfl,⟨ns,s12.seq hS⟩,⟨by decide,by decide⟩,fun c2=>⟨(by show 1<=sizeLine;decide),fun m1 hm1=>⟨m1,24,_,rfl,rfl,aaA,by decide,by decide,(by show 1*24<=sizeLine;decide),fun m2 hm2=>?_⟩⟩⟩
 have s13:=(aaB hm1 (.lst [V.int 240240])).trans (aaB hm2 (.lst (List.replicate (24:Int).toNat [V.int 240240]).flatten))
 refine⟨_,rfl,c2,m2,b,List.replicate 24 240240,rfl,SqL.of aaA,(by decide),(by decide),fun ds2 pd2 H7 s14 hpd2 hd2=>?_⟩
 have s15:=s13.trans s14
 have hps:=s15 _ _ (hpl' _ rfl _)
 have hd2l:ds2.length=24:=hd2.len
 refine⟨pd2,rfl,⟨_,SqL.of hpd2⟩,aa3 (xs:=ds2.map V.int) (fun i z=>∃ms:List Int,z=ms.map V.int/\ms.length=i/\∀m∈ms,m∈ps) (by rw[List.length_map,sizeLine_eq];omega) ⟨[],rfl,rfl,(fun m hm=>nomatch hm)⟩ (SqL.of hpd2) ?_ ?_⟩
 ·intro i v l D3 H8 E' F' hv ⟨ms,em,lm,hb⟩ hD s16 hz hE hF
  rw[List.getElem?_map] at hv
  cases ez:ds2[i]? with
  |none=>rw[ez] at hv;cases hv
  |some z=>
   rw[ez] at hv
   obtain rfl:V.int z=v:=Option.some.inj hv
   have hps8:=s16 _ _ hps
   have lps:((ps.map V.int).length:Int)=(ps.length:Int):=by rw[List.length_map]
   have a1:=Int.emod_nonneg z (show ((ps.length:Int))≠0 by omega)
   have a2:=Int.emod_lt_of_pos z (show 0<(ps.length:Int) by omega)
   obtain⟨k,ek⟩:=Int.eq_ofNat_of_zero_le a1
   have hk:k<ps.length:=by omega
   refine⟨_,rfl,_,rfl,_,rfl,pl,_,rfl,.inl (SqL.of hps8),_,_,rfl,rfl,(by show (0:Int)<((ps.map V.int).length:Int);omega),pl,_,_,_,rfl,rfl,SqL.of hps8,(show atI (ps.map V.int) (z%((ps.map V.int).length:Int))=some (.int (gd ps k)) by rw[lps,ek];exact acM hk),hE _ _ (Same.refl _) ⟨ms++[gd ps k],by rw[em,List.map_append];rfl,by rw[List.length_append,lm];rfl,fun m hm=>?_⟩⟩
   rcases List.mem_append.mp hm with y | y
   ·exact hb m y
   ·rw[List.mem_singleton.mp y];exact abP hk
 intro D3 H8 l ⟨ms,em,lm,hb⟩ hD s16 hz
 subst em
 exact q D3 ms H8 (s12.trans (s15.trans s16)) hz ⟨by rw[lm,List.length_map,hd2l],fun m hm=>hpb m (hb m hm)⟩ (aoJ lam hb)
theorem agE:Df P w K mg base "_law_lone" 1 ["_law_masks_here","_law_one","_law_other"] (agD K):=by
 refine ZZ.F__law_lone.dfs agA (fun vs H Q E h=>?_) (fun f cdv A outer s H vs Q E hr h=>?_)
 ·obtain⟨a,t,u,c,d,ms,rfl,ht,hu,hS,hn,h1,h2,q⟩:=h
  rfl
 obtain⟨a,t,u,c,d,ms,rfl,ht,hu,hS,hn,h1,h2,q⟩:=h
 refine⟨_,(ss1 (aa1 (eOr (akQ oEq (eOp agV (eOp akE (eIx xL (v_ 0) (eIx xT (v_ 1) eI)) (eIx xT (v_ 2) eI)) eI) eI) (ap1 (akQ oEq (eOp agV (eOp akE (eIx xL (v_ 0) (eIx xT (v_ 2) eI)) (eIx xT (v_ 1) eI)) eI) eI))))),?_⟩
 have g1:0<=gd ms c.1:=hn _ (abP h1)
 have g2:0<=gd ms d.1:=hn _ (abP h2)
 refine⟨_,rfl,_,rfl,t,_,_,_,rfl,rfl,SqT.of ht,rfl,a,_,_,_,rfl,rfl,hS,acM h1,_,rfl,u,_,_,_,rfl,rfl,SqT.of hu,rfl,_,_,rfl,rfl,(by show (0:Int)<=((d.2:Nat):Int);omega),_,_,rfl,rfl,rfl,_,rfl,?_⟩
 have e:abA ms c d=(tb (gd ms c.1) d.2&&tb (gd ms d.1) c.2):=rfl
 rw[e] at q
 rw[show ((d.2:Nat):Int).toNat=d.2 from Int.toNat_natCast _,ao4 g1]
 cases z:tb (gd ms c.1) d.2 with
 |false=>
  rw[z] at q
  exact aiD q
 |true=>
  rw[z,Bool.true_and] at q
  refine adY ⟨_,rfl,_,rfl,u,_,_,_,rfl,rfl,SqT.of hu,rfl,a,_,_,_,rfl,rfl,hS,acM h2,_,rfl,t,_,_,_,rfl,rfl,SqT.of ht,rfl,_,_,rfl,rfl,(by show (0:Int)<=((c.2:Nat):Int);omega),_,_,rfl,rfl,rfl,?_⟩
  rw[show ((c.2:Nat):Int).toNat=c.2 from Int.toNat_natCast _,ao4 g2]
  exact q
theorem apT{fL:Addr}{fdL:FuncData}(F:Fun K "law" "law" afR fL fdL):FnOk P w K mg base CX0 7 fL fdL ["_law_script"] (sp_law K):=by
 refine F.oks sc_law (fun vs H Q E h=>?_) (fun cdv A outer s H vs Q E hr h=>?_)
 ·obtain⟨a,ns,rfl,hS,hlen,q⟩:=h
  rfl
 obtain⟨a,ns,rfl,hS,hlen,q⟩:=h
 refine⟨_,(ssC (aa6 1 (akQ oEq (eOp adK (eD (aa7 ZZ) hr (aC (v_ 0) (aC eI aN))) eI) eI) sc_law.nd)
   (ssC (aa6 2 (eD (afH ZZ) hr (aC (v_ 0) (aC (v_ 1) aN))) sc_law.nd)
   (ssC (aa6 3 (eCB asF ZZ.z_sum PyProof.Rows.boot_sum (aC (acR ["_law_masks_here"] [2] (iR1 ZZ.z_range (aC eI aN)) (fun _ _ _ _ _ _=>fsN) (fun _ _ _ _ _ _=>(eOp an8 (eIx (xLc (K:=K)) (v_ 1) (v_ 0)) (eOp ae9 eI (v_ 0))))) aN)) sc_law.nd)
   (ssC (asV (eD (ahQ ZZ) hr (aC (v_ 3) aN)) (gTu (gsC (gN 4 sc_law.nd) (gsC (gN 5 sc_law.nd) gsN))))
   (ssC (sIf (tW (wOr (tNo (tVa (eCB cLL ZZ.z_isinstance PyProof.Rows.boot_isinstance (aC (v_ 4) (aC (eTy ZZ.z_list PyProof.Rows.boot_list) aN))))) (wOr (tNo (tVa (eCB cLL ZZ.z_isinstance PyProof.Rows.boot_isinstance (aC (v_ 5) (aC (eTy ZZ.z_list PyProof.Rows.boot_list) aN))))) (wOr1 (tCm oNe (eCB agT ZZ.z_len PySem.boot_len (aC (v_ 4) aN)) (eCB agT ZZ.z_len PySem.boot_len (aC (v_ 5) aN))))))) (ss1 (aa1 eB)) ssN)
   (ssC (aa6 6 (eOp alA (agZ (aC eI aN)) eI) sc_law.nd)
   (ssC (ahH (iL (v_ 4)) (gTu (gsC (gN 7 sc_law.nd) (gsC (gN 8 sc_law.nd) gsN))) (ss1 (ahH (iR1 ZZ.z_range (aC eI aN)) (gN 9 sc_law.nd) (ss1 (sIf (tCm oEq (eOp agV (eOp akE (v_ 7) (v_ 9)) eI) eI) (ss1 (asV (eOp oOr (eIx xL (v_ 6) (v_ 9)) (v_ 8)) (gSb (v_ 6) (v_ 9)))) ssN)) PassesOwn.never)) PassesOwn.never)
   (ssC (sIf (tCm (oNeI hr.units) (v_ 6) (v_ 2)) (ss1 (aa1 eB)) ssN)
   (ssC (ahH (iR1 ZZ.z_range (aC (eCB agT ZZ.z_len PySem.boot_len (aC (v_ 5) aN)) aN)) (gN 10 sc_law.nd) (ssC (sIf (tCm oEq (eOp agV (eOp akE (eIx xL (v_ 2) (eIx xT (eIx xL (v_ 5) (v_ 10)) eI)) (eIx xT (eIx xL (v_ 5) (v_ 10)) eI)) eI) eI) (ss1 (aa1 eB)) ssN)
   (ss1 (sIf (tCm oIn eB (acR ["_law_masks_here","_law_pairs","_law_k"] [2,5,10] (iL (eSl slL (v_ 5) poN (poS (v_ 10)))) (fun _ _ _ _ _ _=>fsN) (fun _ _ _ _ _ _=>(eD (agE ZZ) hr (aC (v_ 1) (aC (eIx (xLc (K:=K)) (v_ 2) (v_ 3)) (aC (v_ 0) aN))))))) (ss1 (aa1 eB)) ssN))) PassesOwn.never)
   (ss1 (aa1 eB))))))))))),?_⟩
 refine⟨_,rfl,a,_,rfl,⟨ns,hS⟩,⟨by decide,by decide⟩,fun c0=>⟨_,_,rfl,rfl,(by show (0:Int)<2;decide),rfl,?_⟩⟩
 refine⟨_,rfl,_,rfl,a,_,rfl,⟨ns,hS⟩,fun pm ms H1 s1 hpm hM hlam=>?_⟩
 obtain⟨b0,eb0⟩:∃b0,b0=decide (V.int (c0%2)=V.int 1):=⟨_,rfl⟩
 refine⟨_,rfl,by decide,by decide,abE (fun i z=>z=((List.range i).map fun h=>gd ms h*2^(60*h)).map V.int) (by show 24<=sizeLine;decide) rfl ?_ ?_⟩
 ·intro i z D3 H3 E' F' hi hR hD s3 hz hE hF
  subst hR
  have hi:i<24:=hi
  have g:=hM.nn i
  refine⟨_,rfl,_,rfl,pm,_,_,_,rfl,rfl,SqL.of (s3 _ _ hpm),(show atI (ms.map V.int) (0+(i:Int))=some (.int (gd ms i)) by rw[Int.zero_add];exact acM (by rw[hM.len];exact hi)),_,rfl,_,_,rfl,rfl,.inl ⟨by decide,by decide⟩,_,_,rfl,rfl,⟨(by show (0:Int)<=60*(0+(i:Int));omega),(by show 60*(0+(i:Int))<=1000000;omega),(by omega)⟩,hE _ _ (Same.refl _) ?_⟩
  rw[List.range_succ,List.map_append,List.map_append]
  show _++[V.int (gd ms i*2^(60*(0+(i:Int))).toNat)]=_++[V.int (gd ms i*2^(60*i))]
  rw[show (60*(0+(i:Int))).toNat=60*i by omega]
 intro D3 H3 l hR hD s3 hz
 subst hR
 have etm:((List.range 24).map fun h=>gd ms h*2^(60*h)).sum=tmT ms:=by
  have:=alJ (ms:=ms) 24 (by rw[hM.len];exact Nat.le_refl _)
  rw[List.take_of_length_le (by rw[hM.len];exact Nat.le_refl _)] at this
  exact this
 have hpm3:=s3 _ _ hpm
 refine⟨D3,(List.range 24).map fun h=>gd ms h*2^(60*h),rfl,SqL.of hz,?_⟩
 rw[etm]
 refine⟨_,rfl,ms,rfl,hM,fun t p p' ts us rows prs H6 s6 hpn hpn' hne ht hp hts hp' hus res=>⟨t,_,rfl,SqT.of ht,rfl,_,_,rfl,_,_,rfl,rfl,?_⟩⟩
 have hpm6:=s6 _ _ hpm3
 have leq:=ao7 hM hlam res
 obtain⟨L,os,hL,_,_⟩:=res.own
 have l24:=abK hL (by rw[hM.len];decide)
 have lrl:=res.lenH L hL
 have lts:ts.length=rows.length:=Paired.length hts
 have lu:us.length=prs.length:=Paired.length hus
 have hR:=res.rok
 have hP:=res.pok
 have hn:∀m∈ms,0<=m:=fun m hm=>(hM.bd m hm).1
 have hg:∀h,0<=gd ms h:=fun h=>(hM.nn h).1
 have hin:∀c∈prs,c.1<24/\c.2<60:=fun c hc=>hM.hr (hP.inn c hc)
 have hinl:∀c∈prs,c.1<ms.length:=fun c hc=>by rw[hM.len];exact (hin c hc).1
 refine⟨_,rfl,p,_,rfl,SqL.of hp,_,rfl,adY ⟨_,rfl,p',_,rfl,SqL.of hp',_,rfl,adY ⟨_,rfl,p,_,rfl,.inl (SqL.of hp),_,rfl,p',_,rfl,.inl (SqL.of hp'),rfl,_,rfl,ifNI (fun c=>absurd (by rw[List.length_map,List.length_map,lts,lu,leq]) c) fun _=>?_⟩⟩⟩
 refine⟨(by show 1<=sizeLine;decide),fun l0 hl0=>⟨l0,24,_,rfl,rfl,aaA,by decide,by decide,(by show 1*24<=sizeLine;decide),fun cm hcm=>?_⟩⟩
 have s5:=(aaB hl0 (.lst [V.int 0])).trans (aaB hcm (.lst (List.replicate (24:Int).toNat [V.int 0]).flatten))
 have hcn:H6 cm=none:=(aaB hl0 (.lst [V.int 0])).free hcm
 have e24:(List.replicate (24:Int).toNat [V.int 0]).flatten=(List.replicate 24 (0:Int)).map V.int:=rfl
 refine⟨_,rfl,p,rfl,⟨_,SqL.of (s5 _ _ hp)⟩,acC (K:=K) (a:=p) (xs:=ts.map V.ref) (fun i σ H4=>∃(u1 u2 u3 u4:Option V) (cs:List Int) (r:Int×Int),σ=[some (.ref a),some (.bl (decide (V.int (c0%2)=V.int 1))),some (.ref pm),some (.int (tmT ms)),some (.ref p),some (.ref p'),some (.ref cm),u1,u2,u3,u4]/\Same H6 H4/\H4 cm=some (.lst (cs.map V.int))/\ComeOk cs (rows.take i) r 0) ⟨_,_,_,_,_,_,rfl,s5,by rw[e24];exact aaA,aq5⟩ (fun i σ H4 _ ⟨_,_,_,_,_,_,_,s4,_⟩=>SqL.of (s4 _ _ hp)) ?aaU ?done⟩
 case aaU=>
  rintro i x σ H4 hx ⟨u1,u2,u3,u4,cs,r0,rfl,s4,h4,hc⟩
  rw[List.getElem?_map] at hx
  cases ez:ts[i]? with
  |none=>rw[ez] at hx;cases hx
  |some t=>
   rw[ez] at hx
   obtain rfl:V.ref t=x:=Option.some.inj hx
   obtain⟨r,er,ht0⟩:=KM.Paired.at hts ez
   have ht:=s4 _ _ ht0
   have et:rows.take (i+1)=rows.take i++[r]:=by rw[List.take_succ,er];rfl
   have hrb:=hR.bd r (List.mem_of_getElem? er)
   refine⟨t,_,rfl,SqT.of ht,rfl,_,_,rfl,_,_,rfl,rfl,?_⟩
   refine⟨_,rfl,by decide,by decide,af2 (fun k σ H5=>∃(u3 u4:Option V) (cs:List Int),σ=[some (.ref a),some (.bl (decide (V.int (c0%2)=V.int 1))),some (.ref pm),some (.int (tmT ms)),some (.ref p),some (.ref p'),some (.ref cm),some (.int r.1),some (.int r.2),u3,u4]/\Same H6 H5/\H5 cm=some (.lst (cs.map V.int))/\ComeOk cs (rows.take i) r k) ⟨_,_,cs,rfl,s4,h4,anV hc⟩ ?inn ?out⟩
   case out=>
    rintro σ H5 ⟨u3,u4,cs,rfl,s5,h5,hc⟩
    exact⟨_,_,_,_,cs,r,rfl,s5,h5,by rw[et];exact al0 hc⟩
   case inn=>
    rintro k σ H5 hk ⟨u3,u4,cs,rfl,s5,h5,hc⟩
    have hk:k<24:=hk
    have e0:(0+(k:Int)).toNat=k:=by omega
    have hkl:k<cs.length:=by rw[hc.len];exact hk
    refine⟨_,rfl,_,rfl,_,_,rfl,rfl,(by show (0:Int)<=0+(k:Int);omega),_,_,rfl,rfl,rfl,_,rfl,?_⟩
    rw[e0,arR (by omega:0<=r.1)]
    show if tb r.1 k=true then _ else _
    by_cases c:tb r.1 k=true
    ·rw[if_pos c]
     refine⟨_,rfl,_,rfl,cm,_,_,_,rfl,rfl,SqL.of h5,(show atI (cs.map V.int) (0+(k:Int))=some (.int (gd cs k)) by rw[Int.zero_add];exact acM hkl),_,rfl,_,_,rfl,rfl,_,rfl,_,rfl,cm,_,_,k,rfl,rfl,h5,(by unfold ixN;rw[if_pos (by omega),if_pos (by rw[List.length_map];omega),e0]),?_⟩
     refine⟨_,_,_,rfl,ab8 hcn s5,?_,amA (by omega) hk c hc⟩
     rw[List.map_set]
     exact aaA
    ·rw[if_neg c]
     exact⟨_,_,cs,rfl,s5,h5,anH (by simpa using c) hc⟩
 case done=>
  rintro σ H4 ⟨u1,u2,u3,u4,cs,r,rfl,s4,h4,hc⟩
  rw[List.length_map,lts,List.take_length] at hc
  obtain rfl:=akW hM hR hc
  refine⟨_,rfl,_,rfl,cm,pm,false,cs,cs,rfl,rfl,SqL.of h4,SqL.of (s4 _ _ hpm6),_,rfl,?_⟩
  show if (!decide (cs=cs))=true then _ else _
  rw[decide_eq_true rfl]
  refine adY ?_
  refine⟨_,rfl,p',_,rfl,.inl (SqL.of (s4 _ _ hp')),_,rfl,(by rw[List.length_map];omega),(by rw[List.length_map];omega),af2 (fun k σ H2=>Same H6 H2/\∃u4:Option V,σ=[some (.ref a),some (.bl (decide (V.int (c0%2)=V.int 1))),some (.ref pm),some (.int (tmT cs)),some (.ref p),some (.ref p'),some (.ref cm),u1,u2,u3,u4]) ⟨s4,_,rfl⟩ ?tn ?dd⟩
  case dd=>
   rintro σ H2 ⟨s2,u4,rfl⟩
   exact q H2
  case tn=>
   rintro k σ H2 hk ⟨s2,u4,rfl⟩
   rw[List.length_map,Int.toNat_natCast] at hk
   have ez:us[k]? =some us[k]:=List.getElem?_eq_getElem hk
   obtain⟨c,ec,ht⟩:=KM.Paired.at (hus.keep s2.keep) ez
   generalize us[k]=t at ez ht
   have hcm:=List.mem_of_getElem? ec
   have hc:=hin c hcm
   have hp2:=s2 _ _ hp'
   have hS2:=s2 _ _ hpm6
   have et:atI (us.map V.ref) (0+(k:Int))=some (.ref t):=by rw[Int.zero_add];exact acH (by rw[List.getElem?_map,ez];rfl)
   refine⟨_,rfl,_,rfl,_,rfl,p',_,_,_,rfl,rfl,SqL.of hp2,et,t,_,_,_,rfl,rfl,SqT.of ht,rfl,pm,_,_,_,rfl,rfl,SqL.of hS2,acM (hinl c hcm),_,rfl,_,rfl,p',_,_,_,rfl,rfl,SqL.of hp2,et,t,_,_,_,rfl,rfl,SqT.of ht,rfl,_,_,rfl,rfl,(by show (0:Int)<=((c.2:Nat):Int);omega),_,_,rfl,rfl,rfl,_,rfl,?_⟩
   rw[show ((c.2:Nat):Int).toNat=c.2 from Int.toNat_natCast _,ao4 (hg c.1),hP.inn c hcm]
   refine adY ?_
   refine⟨_,rfl,_,rfl,_,rfl,p',_,rfl,SqL.of hp2,fun p3 hp3=>?_⟩
   have s3:=s2.trans (aaB hp3 (.lst (acI (us.map V.ref) none (some (0+(k:Int))))))
   have ect:acI (us.map V.ref) none (some (0+(k:Int)))=(us.take k).map V.ref:=by rw[am0 _ (by rw[List.length_map];omega),List.map_take]
   refine⟨p3,rfl,⟨_,SqL.of aaA⟩,aa3 (xs:=(us.take k).map V.ref) (fun i l=>l=((prs.take i).map fun d=> !abA cs c d).map V.bl) (by rw[List.length_map,List.length_take,sizeLine_eq];omega) rfl (SqL.of (by rw[←ect];exact aaA)) ?st ?dn⟩
   case st=>
    intro i y l D3 H3 E' F' hy hR hD3 s4 hz3 hE hF
    subst hR
    rw[List.getElem?_map,List.getElem?_take] at hy
    split at hy
    ·cases ey:us[i]? with
     |none=>rw[ey] at hy;cases hy
     |some w'=>
      rw[ey] at hy
      obtain rfl:V.ref w'=y:=Option.some.inj hy
      have s34:=s3.trans s4
      obtain⟨d,ed,hd⟩:=KM.Paired.at (hus.keep s34.keep) ey
      refine⟨_,rfl,_,rfl,_,rfl,p',_,_,_,rfl,rfl,SqL.of (s34 _ _ hp'),et,_,rfl,pm,t,w',c,d,cs,rfl,((aaB hp3 _).trans s4) _ _ ht,hd,SqL.of (s34 _ _ hpm6),hn,hinl c hcm,hinl d (List.mem_of_getElem? ed),hE _ _ (Same.refl _) ?_⟩
      rw[List.take_succ,ed,List.map_append,List.map_append]
      rfl
    ·cases hy
   case dn=>
    intro D3 H3 l hR hD3 s4 hz3
    subst hR
    refine⟨D3,_,rfl,.inl (SqL.of hz3),rfl,arT _,_,rfl,?_⟩
    have en:(((prs.take ((us.take k).map V.ref).length).map fun d=> !abA cs c d).any fun b=> !b)=false:=by
     rw[List.any_map,List.any_eq_false]
     intro d hd hh
     rw[List.length_map,List.length_take] at hd
     obtain⟨j,hj⟩:=List.mem_iff_getElem?.mp hd
     rw[List.getElem?_take] at hj
     split at hj
     ·rename_i hjk
      have hjk':j<k:=by omega
      have hjl:=(List.getElem?_eq_some_iff.mp hj).1
      have hkl:=(List.getElem?_eq_some_iff.mp ec).1
      have hap:=List.pairwise_iff_getElem.mp hP.apart j k hjl hkl hjk'
      rw[(List.getElem?_eq_some_iff.mp hj).2,(List.getElem?_eq_some_iff.mp ec).2] at hap
      simp[hap] at hh
     ·cases hj
    show if inV (.bl false) _=true then _ else _
    rw[inF,en]
    exact adY ⟨s3.trans s4,_,rfl⟩
end
theorem all_mk{l:PySem.W.OpenLaw}{w:World}{K:PySem.W.Frag}{h:Heap}{mg:Str->Option Value}{fa f:Addr}{t_HOUR_MINUTES t_DAY_HOURS:Tok}{oc kV dc pm cd ct:Value}{od an:Option Addr}{sl:Array (Option Value)}(X:K.In h)(G:h.Ns mainGlobals mg)(hfa:mg "law"=some (.ref fa))(ZZ:Fs K mg t_HOUR_MINUTES t_DAY_HOURS)
  (a:PySem.W.nsIn K mainGlobals "law"=some (some (.ref f))) (lk:K.lookup f=some ⟨oc,od,.func (PySem.W.fnOf "law" "law" (abR afR) (aaX afR) (aaC afR) .none kV dc pm an cd ct),sl⟩) (c:PySem.W.codeIn K cd "law"=true) (k:PySem.W.keepIn K (.ref f)=true):
  ∃fd:FuncData,(∀(s:Shared) (v:Value),BindsTo s fd ⟨[v],[]⟩ [("_law_script",v)])/\∀base:Heap,K.In base->base.Ns mainGlobals mg->FnOk l.prog w K mg base CX0 7 fa fd ["_law_script"] (sp_law K):=by
 cases hfa.symm.trans (PySem.W.mg_of X G a)
 exact⟨_,fun s v=>.of_eq rfl,fun base _ _=>apT ZZ (alC (st:=afR) lk c k)⟩
theorem walk{l:PySem.W.OpenLaw}{q:Program}{loose:List Str}{XP:(Str->Option Value)->Heap->Prop}{YP:World->Heap->Prop}{d:DefRec}{K:Params->PySem.W.Frag}(hn:l.most=some 63)(hdf:d.params.defaults=[])
  (hY:∀(w:World) (h:Heap),YP w h->(K w.params).In h)
  (F:∀(w:World) (mg:Str->Option Value) (fa:Addr) (h:Heap),(K w.params).In h->h.Ns mainGlobals mg->mg d.name=some (.ref fa)->
   ∃fd:FuncData,(∀(s:Shared) (u:Value),BindsTo s fd ⟨[u],[]⟩ [("_law_script",u)])/\∀base:Heap,(K w.params).In base->base.Ns mainGlobals mg->FnOk l.prog w (K w.params) mg base CX0 7 fa fd ["_law_script"] (sp_law (K w.params))):
  PySem.W.WalkO q loose XP YP l.row.toRowW d [] (fun f vs=>PySem.call f vs):=
 L2.walk_of (n:=63) (k:=7) (x:="_law_script") (CX:=fun _=>CX0) (sp:=fun w=>sp_law (K w.params)) hn (by decide) hdf ⟨rfl,by decide,by decide⟩ hY F (fun _ _ a ns hl _ hS=>⟨a,ns,rfl,hS,hl,fun _=>rfl⟩) fun _ _ _ _ _ z=>z
end K48
open PySem PySem.W PyProof.Rows
local macro_rules
  | `(tactic| o_head $H) => `(tactic| (
      refine holds_open (q := Hd.seenBy) (loose := Hd.free) (N := 1604)
        (Xt := Hd.XT)
        (XP := XL Hd.seenBy Hd.read)
        (Yf := Hook.obs $H) (Ya := Hook.val $H) (YP := Hook.says $H)
        ?hl (Hook.of $H) (Hook.keeps $H)
        (fun z y => xl_of z (Bool.and_eq_true_iff.mp y).1) XL.keeps
        (by rfl) (by rfl) (by rfl)
        (fun z y => recFacts_of (Bool.and_eq_true_iff.mp y).2)
        (by rfl) (by first | assumption | decide +kernel) (by decide +kernel)
        ⟨rfl,rfl,rfl,rfl,rfl,by decide +kernel⟩ ?hw ?hc
      (case hl =>
        refine LeftO.of_pieces Hd.opn Hd.siz Hd.run rfl ?_
        intro w
        funext os
        refine looks_pair (Hd.lk0 w os) (looks_pair (Hd.look w os) ?_)
        as_aux_lemma => kernel_rfl)))
open PySem PySem.W PyProof.Rows L2
set_option maxRecDepth 100000 in
set_option maxHeartbeats 0 in
theorem PySem.Challenge.cw_fivefields_k48_whole_nested_times_holds : PySem.Challenge.rw_fivefields_k48_whole_nested_times.Holds := by
 w_on;o_law;k_head;(case hw=>w_witness2)
 k_fill
 refine K48.walk (l:=PySem.Challenge.rw_fivefields_k48_whole_nested_times) rfl rfl (fun w h Y=>PySem.W.kIn_of Y) ?F
 case F=>
  intro w mg fa h KX G hmg
  refine' K48.all_mk KX G hmg ⟨
   PySem.W.mg_of KX G ?_,
   PySem.W.mg_of KX G ?_,
   PySem.W.mg_none_of KX G ?_,
   PySem.W.mg_none_of KX G ?_,
   PySem.W.mg_none_of KX G ?_,
   PySem.W.mg_none_of KX G ?_,
   PySem.W.mg_none_of KX G ?_,
   PySem.W.mg_none_of KX G ?_,
   PySem.W.mg_none_of KX G ?_,
   PySem.W.mg_none_of KX G ?_,
   PySem.W.mg_none_of KX G ?_,
   PySem.W.mg_none_of KX G ?_,
   aaT KX G ?_ ?_ ?_ ?_ fun _ _ _ _ _ _ us hl=>by obtain⟨_,_,rfl⟩:=afD hl;rfl,
   aaT KX G ?_ ?_ ?_ ?_ fun _ _ _ _ _ _ us hl=>by obtain⟨_,rfl⟩:=afI hl;rfl,
   aaT KX G ?_ ?_ ?_ ?_ fun _ _ _ _ _ _ us hl=>by obtain⟨_,rfl⟩:=afI hl;rfl,
   aaT KX G ?_ ?_ ?_ ?_ fun _ _ _ _ _ _ us hl=>by obtain⟨_,rfl⟩:=afI hl;rfl,
   aaT KX G ?_ ?_ ?_ ?_ fun _ _ _ _ _ _ us hl=>by obtain⟨_,rfl⟩:=afI hl;rfl,
   aaT KX G ?_ ?_ ?_ ?_ fun _ _ _ _ _ _ us hl=>by obtain⟨_,_,rfl⟩:=afD hl;rfl,
   aaT KX G ?_ ?_ ?_ ?_ fun _ _ _ _ _ _ us hl=>by obtain⟨_,_,rfl⟩:=afD hl;rfl,
   aaT KX G ?_ ?_ ?_ ?_ fun _ _ _ _ _ _ us hl=>by obtain⟨_,_,rfl⟩:=afD hl;rfl,
   aaT KX G ?_ ?_ ?_ ?_ fun _ _ _ _ _ _ us hl=>by obtain⟨_,rfl⟩:=afI hl;rfl,
   aaT KX G ?_ ?_ ?_ ?_ fun _ _ _ _ _ _ us hl=>by obtain⟨_,_,rfl⟩:=afD hl;rfl,
   aaT KX G ?_ ?_ ?_ ?_ fun _ _ _ _ _ _ us hl=>by obtain⟨_,_,rfl⟩:=afD hl;rfl,
   aaT KX G ?_ ?_ ?_ ?_ fun _ _ _ _ _ _ us hl=>by obtain⟨_,_,rfl⟩:=afD hl;rfl,
   aaT KX G ?_ ?_ ?_ ?_ fun _ _ _ _ _ _ us hl=>by obtain⟨_,rfl⟩:=afI hl;rfl,
   aaT KX G ?_ ?_ ?_ ?_ fun _ _ _ _ _ _ us hl=>by obtain⟨_,_,_,rfl⟩:=anU hl;rfl,
   aaT KX G ?_ ?_ ?_ ?_ fun _ _ _ _ _ _ us hl=>by obtain⟨_,rfl⟩:=afI hl;rfl,
   aaT KX G ?_ ?_ ?_ ?_ fun _ _ _ _ _ _ us hl=>by obtain⟨_,rfl⟩:=afI hl;rfl,
   aaT KX G ?_ ?_ ?_ ?_ fun _ _ _ _ _ _ us hl=>by obtain⟨_,_,rfl⟩:=afD hl;rfl,
   aaT KX G ?_ ?_ ?_ ?_ fun _ _ _ _ _ _ us hl=>by obtain⟨_,rfl⟩:=afI hl;rfl,
   aaT KX G ?_ ?_ ?_ ?_ fun _ _ _ _ _ _ us hl=>by obtain⟨_,_,_,rfl⟩:=anU hl;rfl,
   aaT KX G ?_ ?_ ?_ ?_ fun _ _ _ _ _ _ us hl=>by obtain⟨_,_,_,_,rfl⟩:=len4 hl;rfl,
   aaT KX G ?_ ?_ ?_ ?_ fun _ _ _ _ _ _ us hl=>by obtain⟨_,_,rfl⟩:=afD hl;rfl,
   aaT KX G ?_ ?_ ?_ ?_ fun _ _ _ _ _ _ us hl=>by obtain⟨_,_,_,rfl⟩:=anU hl;rfl⟩ ?_ ?_ ?_ ?_
  all_goals try (as_aux_lemma=>k_is)
