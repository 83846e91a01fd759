import PyProof.Rows.All
import Wide.All
import OpenK.AllK
import Wide.FinOn
import KE.KLam
import Lean
import PyProof.EqAt
import PyProof.EqKinds
import PyProof.TupleCall
import PySem.Challenge.RW_fivefields_k53_never
local macro_rules
  | `(tactic| omega) => `(tactic| lia)
set_option maxHeartbeats 4000000
set_option compiler.extract_closed false
namespace Hd
open PySem PySem.W PySem.Calls PyProof.Rows
section
set_option maxHeartbeats 0
set_option maxRecDepth 100000
set_option linter.all false
theorem ws:OpenLaw.wellSaid PySem.Challenge.rw_fivefields_k53_never=true:=by
 delta OpenLaw.wellSaid
 with_reducible refine look_both (look_both (look_both (look_both (look_both (look_both (look_both (look_both (look_both (look_both (look_both (look_both (look_both (look_both (look_both (look_both (look_both (look_both ?_ ?_) ?_) ?_) ?_) ?_) ?_) ?_) ?_) ?_) ?_) ?_) ?_) ?_) ?_) ?_) ?_) ?_) ?_
 ·delta OpenRow.wellSaid
  with_reducible refine look_both (look_both ?_ ?_) ?_
  ·delta OpenRow.partSaid
   with_reducible refine look_both (look_both (look_both (look_both (look_both (look_both (look_both (look_both (look_both (look_both (look_both (look_both ?_ ?_) ?_) ?_) ?_) ?_) ?_) ?_) ?_) ?_) ?_) ?_) ?_
   ·delta looksOpen
    with_reducible refine look_both (look_both (look_both (look_both (look_both ?_ ?_) ?_) ?_) ?_) ?_
    all_goals decide +kernel
   all_goals decide +kernel
  all_goals decide +kernel
 all_goals decide +kernel
noncomputable section
noncomputable abbrev pw:Program:=PySem.Challenge.pw_fivefields_k53_never
noncomputable abbrev bi:List Stmt:=behindTheImports pw
noncomputable def nth:List Stmt->Nat->Stmt
 |s::_,0=>s
 |_::r,n+1=>nth r n
 |[],_=>.Pass default
noncomputable def tp(i:Nat):Stmt:=nth pw.main.body i
noncomputable def bd:Stmt->List Stmt
 |.FunctionDef _ _ b _ _ _ _ _ _ _=>b
 |.ClassDef _ _ _ b _ _ _ _ _ _ _=>b
 |_=>[]
noncomputable def ag:Stmt->Arguments
 |.FunctionDef _ a _ _ _ _ _ _ _ _=>a
 |_=>⟨[],[],none,[],[],none,[]⟩
noncomputable def sc:Stmt->Scope
 |.FunctionDef _ _ _ _ _ _ s _ _ _=>s
 |.ClassDef _ _ _ _ _ _ s _ _ _ _=>s
 |_=>pw.main.scope
noncomputable def r(a:Addr):Value:=.ref a
noncomputable def i(n:Int):Value:=.int n 0
noncomputable def de(P:Params)(k:Str)(t:Tok)(v:Value):DictEntry:=⟨PyData.keyHash P k,.str k t,v⟩
noncomputable def tu(l:List Value):Obj:=⟨.type "tuple",none,.seq l.toArray 0,#[]⟩
noncomputable def di(l:List DictEntry)(n:Nat):Obj:=⟨.type "dict",none,.dict l.toArray n,#[]⟩
noncomputable def co(l:List Value):Obj:=⟨.type "code",none,.fields l.toArray,#[]⟩
noncomputable def fd(l:List Value):Obj:=⟨.none,none,.fields l.toArray,#[]⟩
noncomputable def lf(x:Obj):BT:=.node x .nil .nil
noncomputable abbrev nd:Obj->BT->BT->BT:=BT.node
noncomputable def sf(t:Tok):Value:=.str "/claim/cut.py" t
noncomputable def fz(n q:Str)(s:Stmt):Obj:=⟨.none,none,.func ⟨n,q,ag s,.stmts (bd s),sc s,0,[],.none,.none,.none,.none,none,.none,.none,0⟩,#[]⟩
noncomputable def fn(n q:Str)(s:Stmt)(g:Addr)(c:List (Str×Addr))(d k o m:Value)(a:Option Addr)(x y:Value)(b:Addr):Obj:=⟨.type "function",none,.func ⟨n,q,ag s,.stmts (bd s),sc s,g,c,d,k,o,m,a,x,y,b⟩,#[]⟩
noncomputable def ib(s:Stmt)(i:Nat):Stmt:=nth (bd s) i
noncomputable def ev:Env:={scope:=pw.main.scope,locals:=mainNs,globals:=mainNs,cells:=[],code:=(r 13),frame:=some 14}
noncomputable def cd:Code:=.body bi ev
noncomputable abbrev an:Option Value:=(some (r 6))
noncomputable abbrev bk:List Frame:=[topFrame ⟨0,0,0,0⟩]
def cO(n q:Str)(t l c x a u:Nat):Obj:=co [.str n t,.str q (t+1),sf (t+2),i (Int.ofNat l),i (Int.ofNat c),i 0,i 0,i (Int.ofNat x),r a,.bool true,i 181,r (a+1),.none,r (a+2),r (a+3),r (a+4),i (Int.ofNat u),i (Int.ofNat l),sf (u+1)]
def cP(n:Str)(t l c x a u:Nat):Obj:=cO n n t l c x a u
def cK(n q:Str)(t l a u:Nat):Obj:=co [.str n t,.str q (t+1),sf (t+2),i (Int.ofNat l),i 0,i 0,i 0,i 0,r a,.bool false,i 181,r (a+1),.none,.none,.none,.none,i (Int.ofNat u),i (Int.ofNat l),sf (u+1)]
def fQ(n q:Str)(s:Stmt)(m:Value)(a:Addr):Obj:=fn n q s 3 [] .none .none .none m none (r a) .none 0
def fP(n:Str)(k:Nat)(m:Value)(a:Addr):Obj:=fQ n n (tp k) m a
def fY(n:Str)(k:Nat):Obj:=fz n n (tp k)
def fS(n q:Str)(s z:Stmt)(m:Value)(a:Addr):Obj:=⟨(.type "function"),none,(.func ⟨n,q,ag s,.stmts (bd s),sc z,3,[],.none,.none,.none,m,none,r a,.none,0⟩),#[]⟩
def fT(n q:Str)(s z:Stmt):Obj:=⟨.none,none,(.func ⟨n,q,ag s,.stmts (bd s),sc z,0,[],.none,.none,.none,.none,none,.none,.none,0⟩),#[]⟩
def ss:List Str->Nat->List Value
 |[],_=>[]
 |x::l,n=>.str x n::ss l (n+1)
def tS(n:Nat)(l:List Str):Obj:=tu (ss l n)
def dr(P:Params)(k:Str)(t:Tok)(a:Addr):DictEntry:=de P k t (r a)
def f3(k:Nat):List (Nat×Nat)->List Value
 |[]=>[]
 |(a,b)::l=>i (Int.ofNat a)::i (Int.ofNat k)::r b::f3 k l
def fD(k:Nat)(l:List (Nat×Nat)):Obj:=fd (f3 k l)
def fr(a b:Addr)(m:Value):Obj:=⟨(.type "frame"),none,.plain,#[some (r a),some (r 3),some (r b),none,some m,none,some (r 0)]⟩
def bm(s:String)(v:Value):Obj:=⟨(.type "builtin_function_or_method"),none,(.fields #[.builtin s,v]),#[]⟩
def sp2(l:List Obj):List Obj×List Obj:=List.rec ([],[]) (fun x _ p=>(x::p.2,p.1)) l
def brn:Nat->List Obj->BT
 |0,_=>.nil
 |_+1,[]=>.nil
 |n+1,x::l=>.node x (brn n (sp2 l).1) (brn n (sp2 l).2)
def su(a b c:Addr):Obj:=⟨(.type "super"),none,(.fields #[r a,r b,r c]),#[]⟩
def mv0:Value:=.str "fivefields.marks" 733
def mv1:Value:=.str "fivefields.errors" 194
def mv2:Value:=.str "fivefields.days" 289
def mv3:Value:=.str "fivefields.months" 410
def mv4:Value:=.str "fivefields.ranges" 463
def mv5:Value:=.str "fivefields.papers" 515
def mv6:Value:=.str "fivefields.leaps" 560
def mv7:Value:=.str "fivefields.fields" 647
def mv8:Value:=.str "law_fivefields_k53_never" 1352
def mv9:Value:=.str "fivefields.rows" 1176
def o0:=tu []
def o1:=fd []
def o2:=cK "<module>" "<module>" 182 1 11 185
def o3:Obj:=⟨(.type "frame"),none,.plain,#[(some (r 13)),(some (r 3)),(some (r 3)),none,(some (.str "__main__" 164)),none,(some (r 0))]⟩
def hA(P:Params):Heap:=⟨⟨[(boot_o_0 P),(boot_o_1 P),(boot_o_2 P),(boot_o_3 P),(boot_o_4 P),(boot_o_5 P),(boot_o_6 P),(boot_o_7 P),(boot_o_8 P),(boot_o_9 P),(boot_o_10 P),o0,o1,o2,o3]⟩,⟨[],[],[],0,[],[],false,#[],[],0,false,false,false,0,[2000,10,10],false,0,true,[],[],0,false⟩⟩
def sA(w:World)(os:OsState):Shared:=⟨hA w.params,#[],⟨0,0,0,0⟩,187,os⟩
theorem pre(w:World)(os:OsState):
  topGo treeTable pw w 11 an 12 ⟨boot_heap w.params,⟨[]⟩,boot_drawn,boot_toks,os⟩ (topStub pw) =
  some (sA w os,⟨denote treeTable cd,cd,⟨0,0,0,0⟩,bk⟩):=by kernel_rfl
def t0(P:Params):BT:=brn 5 [(boot_o_0 P),(boot_o_1 P),(boot_o_2 P),(boot_o_3 P),(boot_o_4 P),(boot_o_5 P),(boot_o_6 P),(boot_o_7 P),(boot_o_8 P),(boot_o_9 P),(boot_o_10 P),o0,o1,o2,o3]
def s0(w:World)(os:OsState):SharedT:=⟨t0 w.params,15,⟨[],[],[],0,[],[],false,#[],[],0,false,false,false,0,[2000,10,10],false,0,true,[],[],0,false⟩,#[],⟨0,0,0,0⟩,187,os⟩
theorem blk(w:World)(os:OsState):
  segRun treeTable pw w 11 an 1 1 (sA w os) (blockOf bi ev cd ⟨0,0,0,0⟩ bk) =
  some (.next,(s0 w os).abs,cd,⟨0,0,0,0⟩):=by kernel_rfl
def o4(P:Params):=di [de P "__name__" 165 mv0,de P "__doc__" 166 .none,de P "__package__" 167 .none,de P "__loader__" 168 (.builtin "__main__.__loader__#opaque"),de P "__spec__" 169 .none,dr P "__annotations__" 170 6,dr P "__builtins__" 171 4,de P "__file__" 173 (sf 172),de P "__cached__" 174 .none,dr P "_wall" 193 21,dr P "FieldError" 213 31,dr P "NoDay" 229 44,dr P "NoField" 254 63,dr P "NoRow" 279 82,dr P "is_whole" 288 91,dr P "MONTH_LASTS" 303 92,de P "ROUND_YEARS" 305 (.int 400 304),de P "ROUND_DAYS" 307 (.int 146097 306),dr P "is_long" 314 99,dr P "multiples_before" 322 106,dr P "days_before" 330 113,dr P "last_of" 338 120,dr P "is_date" 347 127,dr P "day_of" 353 132,dr P "year_of" 361 139,dr P "date_of" 371 146,dr P "weekday" 378 153,de P "FIGURES" 382 (.str "0123456789" 381),dr P "all_figures" 388 158,dr P "is_written" 395 165,de P "DAY_MINUTES" 399 (.int 1440 398),de P "HOUR_MINUTES" 401 (.int 60 400),dr P "parted" 409 172,de P "KINDS" 413 (.int 91 412),de P "LONG_PLACE" 415 (.int 12 414),de P "LONG_LAST" 417 (.int 29 416),de P "SHORT_YEAR" 419 (.int 1 418),dr P "kind_from" 429 179,dr P "kind_of" 437 186,dr P "month_at" 446 193,dr P "next_month" 454 200,dr P "month_before" 462 207,dr P "has" 472 214,dr P "lowest" 479 221,dr P "starts_of" 485 226,dr P "end_from" 494 233,dr P "ranges_of" 500 238,dr P "shown_range" 508 245,dr P "shown_ranges" 514 250,dr P "add_stretch" 526 257,dr P "last_shut_day" 537 264,dr P "shut_end" 546 271,dr P "paper_of" 559 278,de P "MOST_MONTHS" 563 (.int 492 562),de P "MOST_MONTH_MINUTES" 565 (.int 44640 564),dr P "minutes_on" 575 285,dr P "minutes_by" 584 292,dr P "month_of" 592 299,dr P "first_at" 606 306,dr P "final_at" 620 313,dr P "never" 626 318,dr P "next_from" 636 325,dr P "last_to" 646 332,de P "MOST_SIGNS" 650 (.int 300 649),de P "MOST_ITEMS" 652 (.int 40 651),de P "MOST_STRIDE" 654 (.int 99 653),dr P "mask_of" 663 339,dr P "numbers_in" 669 344,dr P "run_mask" 678 351,dr P "read_number" 688 358,dr P "read_run" 694 363,dr P "read_strided" 707 370,dr P "read_item" 718 377,dr P "read_field" 732 384,de P "MOST_MARKS" 736 (.int 20 735),de P "MOST_DAY" 738 (.int 31 737),de P "MOST_BACK" 740 (.int 30 739),de P "MOST_NTH" 742 (.int 5 741),de P "SUNDAY" 744 (.int 0 743),de P "SATURDAY" 746 (.int 6 745),de P "SUNDAY_TOO" 748 (.int 7 747),de P "ALL_WEEKDAYS" 750 (.int 127 749),dr P "weekday_at" 758 391,dr P "all_days" 765 398,dr P "nearest_work" 775 405,dr P "first_one" 783 412,dr P "Mark" 819 436,dr P "Numbers" 860 471,dr P "Last" 902 505,dr P "Near" 943 538,dr P "LastWork" 975 564,dr P "Weekdays" 1018 597,dr P "Nth" 1062 630] 93
def o5:=fD 0 [(1,20),(5,27),(7,40),(9,52),(13,71),(18,90),(24,98),(26,105),(28,112),(31,119),(35,126),(39,131),(44,138),(49,145),(57,152),(61,157),(63,164),(68,171),(76,178),(79,185),(81,192),(87,199),(91,206),(96,213),(98,220),(100,225),(103,232),(108,237),(110,244),(114,249),(117,256),(122,263),(129,270),(135,277),(147,284),(152,291),(156,298),(159,305),(170,312),(181,317),(183,324),(188,331),(197,338),(202,343),(204,350),(206,357),(213,362),(220,369),(227,376),(235,383),(257,390),(259,397),(261,404),(268,411),(270,418),(277,446),(287,479),(301,513),(313,546),(320,572),(333,605)]
def o6:=tS 190 ["k"]
def o7:=fY "_wall" 0
def o8:=cP "_wall" 187 1 1 3 15 191
def o9:=fn "_wall" "_wall" (tp 0) 3 [] .none .none .none (.str "__main__" 164) none (r 20) .none 0
def o10:=tu [(.type "ValueError")]
def o11:=bm "type.__prepare__" (.type "type")
def o12(P:Params):=di [de P "__module__" 203 mv1,de P "__qualname__" 205 (.str "FieldError" 204),de P "__firstlineno__" 207 (.int 5 206),dr P "__static_attributes__" 208 29] 4
def o13:=cK "FieldError" "FieldError" 198 5 25 201
def o14:=fr 27 24 mv1
def o15(P:Params):=di [de P "__module__" 203 mv1,de P "__firstlineno__" 207 (.int 5 206),dr P "__static_attributes__" 208 29,dr P "__weakref__" 210 32,de P "__doc__" 211 .none] 3
def o16:Obj:=⟨(.type "type"),none,(.cls ⟨"FieldError",[(.type "ValueError")],[(r 31),(.type "ValueError"),(.type "Exception"),(.type "BaseException"),(.type "object")],30,"FieldError",true,[],[(r 44),(r 63),(r 82)],false,none,false⟩),#[(some (r 22)),none,(some (.str "FieldError" 196)),(some (.str "FieldError" 204)),(some (.builtin "ValueError.__new__")),(some (.bool true))]⟩
def o17:Obj:=⟨(.type "getset_descriptor"),none,(.fields #[(.str "__weakref__" 209),(r 31),(.builtin "ExceptionGroup.__weakref__"),.none]),#[]⟩
def o18:=su 31 31 31
def o19:=bm "object.__init_subclass__" (r 31)
def o20:=tu [(r 31)]
def o21(P:Params):=di [de P "__module__" 221 mv1,de P "__qualname__" 223 (.str "NoDay" 222),de P "__firstlineno__" 225 (.int 7 224),dr P "__static_attributes__" 226 42] 4
def o22:=cK "NoDay" "NoDay" 216 7 38 219
def o23:=fr 40 37 mv1
def o24(P:Params):=di [de P "__module__" 221 mv1,de P "__firstlineno__" 225 (.int 7 224),dr P "__static_attributes__" 226 42,de P "__doc__" 227 .none] 2
def o25:Obj:=⟨(.type "type"),none,(.cls ⟨"NoDay",[(r 31)],[(r 44),(r 31),(.type "ValueError"),(.type "Exception"),(.type "BaseException"),(.type "object")],43,"NoDay",true,[],[],false,none,false⟩),#[(some (r 35)),none,(some (.str "NoDay" 214)),(some (.str "NoDay" 222)),(some (.builtin "ValueError.__new__")),(some (.bool true))]⟩
def o26:=su 44 44 44
def o27:=bm "object.__init_subclass__" (r 44)
def o28(P:Params):=di [de P "__module__" 237 mv1,de P "__qualname__" 239 (.str "NoField" 238),de P "__firstlineno__" 241 (.int 9 240),dr P "__init__" 249 60,dr P "__static_attributes__" 251 61] 5
def o29:=fD 4 [(11,59)]
def o30:=cK "NoField" "NoField" 232 9 50 235
def o31:=fr 52 49 mv1
def o32:=tS 245 ["self","at"]
def o33:=fz "__init__" "NoField.__init__" (ib (tp 4) 0)
def o34:=cO "__init__" "NoField.__init__" 242 11 2 3 54 247
def o35:=fQ "__init__" "NoField.__init__" (ib (tp 4) 0) mv1 59
def o36:=tS 250 ["at"]
def o37(P:Params):=di [de P "__module__" 237 mv1,de P "__firstlineno__" 241 (.int 9 240),dr P "__init__" 249 60,dr P "__static_attributes__" 251 61,de P "__doc__" 252 .none] 2
def o38:Obj:=⟨(.type "type"),none,(.cls ⟨"NoField",[(r 31)],[(r 63),(r 31),(.type "ValueError"),(.type "Exception"),(.type "BaseException"),(.type "object")],62,"NoField",true,[],[],false,none,false⟩),#[(some (r 47)),none,(some (.str "NoField" 230)),(some (.str "NoField" 238)),(some (.builtin "ValueError.__new__")),(some (.bool true))]⟩
def o39:=su 63 63 63
def o40:=bm "object.__init_subclass__" (r 63)
def o41(P:Params):=di [de P "__module__" 262 mv1,de P "__qualname__" 264 (.str "NoRow" 263),de P "__firstlineno__" 266 (.int 13 265),dr P "__init__" 274 79,dr P "__static_attributes__" 276 80] 5
def o42:=fD 4 [(15,78)]
def o43:=cK "NoRow" "NoRow" 257 13 69 260
def o44:=fr 71 68 mv1
def o45:=tS 270 ["self","place"]
def o46:=fz "__init__" "NoRow.__init__" (ib (tp 5) 0)
def o47:=cO "__init__" "NoRow.__init__" 267 15 2 3 73 272
def o48:=fQ "__init__" "NoRow.__init__" (ib (tp 5) 0) mv1 78
def o49:=tS 275 ["place"]
def o50(P:Params):=di [de P "__module__" 262 mv1,de P "__firstlineno__" 266 (.int 13 265),dr P "__init__" 274 79,dr P "__static_attributes__" 276 80,de P "__doc__" 277 .none] 2
def o51:Obj:=⟨(.type "type"),none,(.cls ⟨"NoRow",[(r 31)],[(r 82),(r 31),(.type "ValueError"),(.type "Exception"),(.type "BaseException"),(.type "object")],81,"NoRow",true,[],[],false,none,false⟩),#[(some (r 66)),none,(some (.str "NoRow" 255)),(some (.str "NoRow" 263)),(some (.builtin "ValueError.__new__")),(some (.bool true))]⟩
def o52:=su 82 82 82
def o53:=bm "object.__init_subclass__" (r 82)
def o54:=tS 285 ["thing"]
def o55:=fY "is_whole" 7
def o56:=cP "is_whole" 282 18 1 3 85 286
def o57:=fn "is_whole" "is_whole" (tp 7) 3 [] .none .none .none (.str "fivefields.wholes" 280) none (r 90) .none 0
def o58:=tu [(.int 31 291),(.int 28 292),(.int 31 293),(.int 30 294),(.int 31 295),(.int 30 296),(.int 31 297),(.int 31 298),(.int 30 299),(.int 31 300),(.int 30 301),(.int 31 302)]
def o59:=tS 311 ["year"]
def o60:=fY "is_long" 12
def o61:=cP "is_long" 308 24 1 3 93 312
def o62:=fP "is_long" 12 mv2 98
def o63:=tS 318 ["year","step"]
def o64:=fY "multiples_before" 13
def o65:=cP "multiples_before" 315 26 2 3 100 320
def o66:=fP "multiples_before" 13 mv2 105
def o67:=tS 326 ["year","longs"]
def o68:=fY "days_before" 14
def o69:=cP "days_before" 323 28 1 3 107 328
def o70:=fP "days_before" 14 mv2 112
def o71:=tS 334 ["year","month"]
def o72:=fY "last_of" 15
def o73:=cP "last_of" 331 31 2 3 114 336
def o74:=fP "last_of" 15 mv2 119
def o75:=tS 342 ["year","month","day"]
def o76:=fY "is_date" 16
def o77:=cP "is_date" 339 35 3 3 121 345
def o78:=fP "is_date" 16 mv2 126
def o79:=fY "day_of" 17
def o80:=co [(.str "day_of" 348),(.str "day_of" 349),(sf 350),(i 39),(i 3),(i 0),(i 0),(i 3),(r 128),(.bool true),(i 181),(r 129),.none,.none,.none,(r 130),(i 351),(i 39),(sf 352)]
def o81:=fP "day_of" 17 mv2 131
def o82:=tS 357 ["day","year"]
def o83:=fY "year_of" 18
def o84:=cP "year_of" 354 44 1 3 133 359
def o85:=fP "year_of" 18 mv2 138
def o86:=tS 365 ["day","year","month","rest"]
def o87:=fY "date_of" 19
def o88:=cP "date_of" 362 49 1 3 140 369
def o89:=fP "date_of" 19 mv2 145
def o90:=tS 375 ["day"]
def o91:=fY "weekday" 20
def o92:=cP "weekday" 372 57 1 3 147 376
def o93:=fP "weekday" 20 mv2 152
def o94:=fY "all_figures" 23
def o95:=co [(.str "all_figures" 383),(.str "all_figures" 384),(sf 385),(i 61),(i 1),(i 0),(i 0),(i 3),(r 154),(.bool true),(i 181),(r 155),.none,.none,.none,(r 156),(i 386),(i 61),(sf 387)]
def o96:=fn "all_figures" "all_figures" (tp 23) 3 [] .none .none .none (.str "fivefields.figures" 379) none (r 157) .none 0
def o97:=tS 392 ["text"]
def o98:=fY "is_written" 24
def o99:=cP "is_written" 389 63 1 3 159 393
def aOR:=fn "is_written" "is_written" (tp 24) 3 [] .none .none .none (.str "fivefields.figures" 379) none (r 164) .none 0
def aMW:=tS 405 ["moment","time"]
def aMV:=fY "parted" 28
def aH1:=cP "parted" 402 68 1 3 166 407
def aKE:=fn "parted" "parted" (tp 28) 3 [] .none .none .none (.str "fivefields.moments" 396) none (r 171) .none 0
def aGR:=tS 423 ["year","month","day","place"]
def aQX:=fY "kind_from" 34
def aJI:=cP "kind_from" 420 76 3 3 173 427
def aI8:=fP "kind_from" 34 mv3 178
def aIM:=tS 433 ["year","month"]
def aON:=fY "kind_of" 35
def aOC:=cP "kind_of" 430 79 2 3 180 435
def aG0:=fP "kind_of" 35 mv3 185
def aPM:=tS 441 ["kind","place","first"]
def aJH:=fY "month_at" 36
def aMQ:=cP "month_at" 438 81 1 3 187 444
def aJA:=fP "month_at" 36 mv3 192
def aNL:=tS 450 ["year","month"]
def aN0:=fY "next_month" 37
def aIS:=cP "next_month" 447 87 2 3 194 452
def aJ1:=fP "next_month" 37 mv3 199
def aN2:=tS 458 ["year","month"]
def aHD:=fT "month_before" "month_before" (tp 38) (tp 37)
def aQR:=cP "month_before" 455 91 2 3 201 460
def aKF:=fS "month_before" "month_before" (tp 38) (tp 37) mv3 206
def aMY:=tS 468 ["mask","number"]
def aQT:=fY "has" 40
def aNZ:=cP "has" 465 96 2 3 208 470
def aP6:=fP "has" 40 mv4 213
def aG8:=tS 476 ["mask"]
def aJ6:=fY "lowest" 41
def aNW:=cP "lowest" 473 98 1 3 215 477
def aH3:=fP "lowest" 41 mv4 220
def aPZ:=fY "starts_of" 42
def aMF:=co [(.str "starts_of" 480),(.str "starts_of" 481),(sf 482),(i 100),(i 1),(i 0),(i 0),(i 3),(r 222),(.bool true),(i 181),(r 223),.none,.none,.none,(r 224),(i 483),(i 100),(sf 484)]
def aOQ:=fP "starts_of" 42 mv4 225
def aGZ:=tS 489 ["mask","start","end"]
def aHV:=fY "end_from" 43
def aJQ:=cP "end_from" 486 103 2 3 227 492
def aJ3:=fP "end_from" 43 mv4 232
def aHG:=fY "ranges_of" 44
def aNS:=co [(.str "ranges_of" 495),(.str "ranges_of" 496),(sf 497),(i 108),(i 1),(i 0),(i 0),(i 3),(r 234),(.bool true),(i 181),(r 235),.none,.none,.none,(r 236),(i 498),(i 108),(sf 499)]
def aK0:=fP "ranges_of" 44 mv4 237
def aIN:=tS 504 ["first","last"]
def aMZ:=fY "shown_range" 45
def aNP:=cP "shown_range" 501 110 2 3 239 506
def aJG:=fP "shown_range" 45 mv4 244
def aPX:=fY "shown_ranges" 46
def aOV:=co [(.str "shown_ranges" 509),(.str "shown_ranges" 510),(sf 511),(i 114),(i 1),(i 0),(i 0),(i 3),(r 246),(.bool true),(i 181),(r 247),.none,.none,.none,(r 248),(i 512),(i 114),(sf 513)]
def aL5:=fP "shown_ranges" 46 mv4 249
def aPF:=tS 520 ["stretches","first","last","told"]
def aMR:=fY "add_stretch" 48
def aPN:=cP "add_stretch" 517 117 4 3 251 524
def aNA:=fP "add_stretch" 48 mv5 256
def aN9:=tS 530 ["row","day","date","kind","later"]
def aI4:=fY "last_shut_day" 49
def aQZ:=cP "last_shut_day" 527 122 2 3 258 535
def aG4:=fP "last_shut_day" 49 mv5 263
def aPI:=tS 541 ["row","moment","word"]
def aJB:=fY "shut_end" 50
def aNM:=cP "shut_end" 538 129 3 3 265 544
def aKN:=fP "shut_end" 50 mv5 270
def aNQ:=tS 550 ["row","begin","end","stretches","moment","word","last"]
def aGS:=fY "paper_of" 51
def aMS:=cP "paper_of" 547 135 3 3 272 557
def aPL:=fP "paper_of" 51 mv5 277
def aO1:=tS 569 ["days","minutes","place","times"]
def aHX:=fY "minutes_on" 55
def aL3:=cP "minutes_on" 566 147 1 3 279 573
def aJ4:=fP "minutes_on" 55 mv6 284
def aI5:=tS 579 ["known","on_days","kind"]
def aO2:=fY "minutes_by" 56
def aI6:=cP "minutes_by" 576 152 3 3 286 582
def aL2:=fP "minutes_by" 56 mv6 291
def aOW:=tS 588 ["moment","date"]
def aPP:=fY "month_of" 57
def aLB:=cP "month_of" 585 156 1 3 293 590
def aPG:=fP "month_of" 57 mv6 298
def aNJ:=tS 596 ["on_days","moment","month","known","turn","start","passed","rest"]
def aJS:=fY "first_at" 58
def aPA:=cP "first_at" 593 159 2 3 300 604
def aH6:=fP "first_at" 58 mv6 305
def aMP:=tS 610 ["on_days","moment","month","known","turn","start","latest","rest"]
def aOT:=fY "final_at" 59
def aHB:=cP "final_at" 607 170 2 3 307 618
def aKL:=fP "final_at" 59 mv6 312
def aHU:=fY "never" 60
def aIZ:=co [(.str "never" 621),(.str "never" 622),(sf 623),(i 181),(i 1),(i 0),(i 0),(i 3),(r 314),(.bool true),(i 181),(r 315),.none,.none,.none,(r 316),(i 624),(i 181),(sf 625)]
def aKV:=fP "never" 60 mv6 317
def aM3:=tS 630 ["row","moment","found"]
def aKK:=tS 633 ["row"]
def aKQ:=fY "next_from" 61
def aH4:=cP "next_from" 627 183 2 3 319 634
def aPB:=fP "next_from" 61 mv6 324
def aOK:=tS 640 ["row","moment","found"]
def aIR:=tS 643 ["row"]
def aKR:=fY "last_to" 62
def aLV:=cP "last_to" 637 188 2 3 326 644
def aG5:=fP "last_to" 62 mv6 331
def aHK:=tS 658 ["numbers","mask","number"]
def aN1:=fY "mask_of" 67
def aOL:=cP "mask_of" 655 197 1 3 333 661
def aMB:=fP "mask_of" 67 mv7 338
def aNX:=fY "numbers_in" 68
def aJO:=co [(.str "numbers_in" 664),(.str "numbers_in" 665),(sf 666),(i 202),(i 1),(i 0),(i 0),(i 3),(r 340),(.bool true),(i 181),(r 341),.none,.none,.none,(r 342),(i 667),(i 202),(sf 668)]
def aIB:=fP "numbers_in" 68 mv7 343
def aQN:=tS 673 ["first","last","stride"]
def aLK:=fY "run_mask" 69
def aHE:=cP "run_mask" 670 204 3 3 345 676
def aI3:=fP "run_mask" 69 mv7 350
def aQQ:=tS 682 ["text","low","high","number"]
def aQV:=fY "read_number" 70
def aQC:=cP "read_number" 679 206 3 3 352 686
def aH8:=fP "read_number" 70 mv7 357
def aP5:=fY "read_run" 71
def aKD:=co [(.str "read_run" 689),(.str "read_run" 690),(sf 691),(i 213),(i 3),(i 0),(i 0),(i 3),(r 359),(.bool true),(i 181),(r 360),.none,.none,.none,(r 361),(i 692),(i 213),(sf 693)]
def aLZ:=fP "read_run" 71 mv7 362
def aIH:=tS 698 ["run_text","stride_text","low","high","run","stride","last"]
def aOI:=fY "read_strided" 72
def aP0:=cP "read_strided" 695 220 4 3 364 705
def aMJ:=fP "read_strided" 72 mv7 369
def aLN:=tS 711 ["item","low","high","parts","run"]
def aKT:=fY "read_item" 73
def aLD:=cP "read_item" 708 227 3 3 371 716
def aH2:=fP "read_item" 73 mv7 376
def aND:=tS 722 ["text","low","high","items","mask","place","item","told"]
def aPU:=fY "read_field" 74
def aKM:=cP "read_field" 719 235 3 3 378 730
def aJW:=fP "read_field" 74 mv7 383
def aG6:=tS 754 ["day","first"]
def aJC:=fY "weekday_at" 84
def aLM:=cP "weekday_at" 751 257 2 3 385 756
def aH5:=fP "weekday_at" 84 mv0 390
def aQB:=tS 762 ["last"]
def aG1:=fY "all_days" 85
def aML:=cP "all_days" 759 259 1 3 392 763
def aK7:=fP "all_days" 85 mv0 397
def aGQ:=tS 769 ["day","last","first","of_week"]
def aJ7:=fY "nearest_work" 86
def aIU:=cP "nearest_work" 766 261 3 3 399 773
def aHY:=fP "nearest_work" 86 mv0 404
def aPH:=tS 779 ["weekday","first"]
def aL1:=fY "first_one" 87
def aH9:=cP "first_one" 776 268 2 3 406 781
def aIA:=fP "first_one" 87 mv0 411
def aHW(P:Params):=di [de P "__module__" 791 mv0,de P "__qualname__" 793 (.str "Mark" 792),de P "__firstlineno__" 795 (.int 270 794),dr P "days" 804 426,dr P "told" 811 433,dr P "__static_attributes__" 812 434] 6
def aGW:=fD 4 [(272,425),(275,432)]
def aK4:=cK "Mark" "Mark" 786 270 416 789
def aMX:=fr 418 415 mv0
def aQI:=tS 799 ["self","last","first"]
def aHC:=fz "days" "Mark.days" (ib (tp 88) 0)
def aOU:=cO "days" "Mark.days" 796 272 3 3 420 802
def aOF:=fQ "days" "Mark.days" (ib (tp 88) 0) mv0 425
def aPR:=tS 808 ["self"]
def aQL:=fz "told" "Mark.told" (ib (tp 88) 1)
def aIW:=cO "told" "Mark.told" 805 275 1 3 427 809
def aIY:=fQ "told" "Mark.told" (ib (tp 88) 1) mv0 432
def aPC(P:Params):=di [de P "__module__" 791 mv0,de P "__firstlineno__" 795 (.int 270 794),dr P "days" 804 426,dr P "told" 811 433,dr P "__static_attributes__" 812 434,dr P "__dict__" 814 437,dr P "__weakref__" 816 438,de P "__doc__" 817 .none] 4
def o258:Obj:=⟨(.type "type"),none,(.cls ⟨"Mark",[(.type "object")],[(r 436),(.type "object")],435,"Mark",true,[],[(r 471),(r 505),(r 538),(r 564),(r 597),(r 630)],false,none,false⟩),#[none,none,(some (.str "Mark" 784)),(some (.str "Mark" 792)),(some (.builtin "object.__new__")),(some (.bool true))]⟩
def aKW:Obj:=⟨(.type "getset_descriptor"),none,(.fields #[(.str "__dict__" 813),(r 436),(.builtin "function.__dict__"),(.builtin "function.__dict__#set")]),#[]⟩
def aLR:Obj:=⟨(.type "getset_descriptor"),none,(.fields #[(.str "__weakref__" 815),(r 436),(.builtin "ExceptionGroup.__weakref__"),.none]),#[]⟩
def aPY:=su 436 436 436
def aL9:=bm "object.__init_subclass__" (r 436)
def ag7:=tu [(r 436)]
def aHZ(P:Params):=di [de P "__module__" 827 mv0,de P "__qualname__" 829 (.str "Numbers" 828),de P "__firstlineno__" 831 (.int 277 830),dr P "__init__" 839 454,dr P "days" 848 461,dr P "told" 855 468,dr P "__static_attributes__" 857 469] 7
def aK6:=fD 4 [(279,453),(282,460),(285,467)]
def aP2:=cK "Numbers" "Numbers" 822 277 444 825
def aHJ:=fr 446 443 mv0
def aLY:=tS 835 ["self","mask"]
def aNN:=fz "__init__" "Numbers.__init__" (ib (tp 89) 0)
def aK1:=cO "__init__" "Numbers.__init__" 832 279 2 3 448 837
def aJK:=fQ "__init__" "Numbers.__init__" (ib (tp 89) 0) mv0 453
def aLJ:=tS 843 ["self","last","first"]
def aNG:=fz "days" "Numbers.days" (ib (tp 89) 1)
def aM6:=cO "days" "Numbers.days" 840 282 3 3 455 846
def aP1:=fQ "days" "Numbers.days" (ib (tp 89) 1) mv0 460
def aLU:=tS 852 ["self"]
def aI9:=fz "told" "Numbers.told" (ib (tp 89) 2)
def aNF:=cO "told" "Numbers.told" 849 285 1 3 462 853
def aPT:=fQ "told" "Numbers.told" (ib (tp 89) 2) mv0 467
def aLA:=tS 856 ["mask"]
def aHH(P:Params):=di [de P "__module__" 827 mv0,de P "__firstlineno__" 831 (.int 277 830),dr P "__init__" 839 454,dr P "days" 848 461,dr P "told" 855 468,dr P "__static_attributes__" 857 469,de P "__doc__" 858 .none] 2
def aO7:Obj:=⟨(.type "type"),none,(.cls ⟨"Numbers",[(r 436)],[(r 471),(r 436),(.type "object")],470,"Numbers",true,[],[],false,none,false⟩),#[(some (r 441)),none,(some (.str "Numbers" 820)),(some (.str "Numbers" 828)),(some (.builtin "object.__new__")),(some (.bool true))]⟩
def aOZ:=su 471 471 471
def aPJ:=bm "object.__init_subclass__" (r 471)
def aMH(P:Params):=di [de P "__module__" 868 mv0,de P "__qualname__" 870 (.str "Last" 869),de P "__firstlineno__" 872 (.int 287 871),dr P "__init__" 881 488,dr P "days" 890 495,dr P "told" 897 502,dr P "__static_attributes__" 899 503] 7
def aIE:=fD 4 [(289,487),(292,494),(297,501)]
def aIV:=cK "Last" "Last" 863 287 477 866
def aNU:=fr 479 476 mv0
def aIJ:=tu [(.int 0 873)]
def aK8:=tS 877 ["self","back"]
def aOY:=fz "__init__" "Last.__init__" (ib (tp 90) 0)
def aP7:=cO "__init__" "Last.__init__" 874 289 2 3 482 879
def aGO:=fn "__init__" "Last.__init__" (ib (tp 90) 0) 3 [] (r 481) .none .none mv0 none (r 487) .none 0
def aM5:=tS 885 ["self","last","first"]
def aLG:=fT "days" "Last.days" (ib (tp 90) 1) (ib (tp 88) 0)
def aLL:=cO "days" "Last.days" 882 292 3 3 489 888
def aJ2:=fS "days" "Last.days" (ib (tp 90) 1) (ib (tp 88) 0) mv0 494
def aN8:=tS 894 ["self"]
def aQG:=fz "told" "Last.told" (ib (tp 90) 2)
def aKC:=cO "told" "Last.told" 891 297 1 3 496 895
def aO0:=fQ "told" "Last.told" (ib (tp 90) 2) mv0 501
def aLP:=tS 898 ["back"]
def aG3(P:Params):=di [de P "__module__" 868 mv0,de P "__firstlineno__" 872 (.int 287 871),dr P "__init__" 881 488,dr P "days" 890 495,dr P "told" 897 502,dr P "__static_attributes__" 899 503,de P "__doc__" 900 .none] 2
def aOH:Obj:=⟨(.type "type"),none,(.cls ⟨"Last",[(r 436)],[(r 505),(r 436),(.type "object")],504,"Last",true,[],[],false,none,false⟩),#[(some (r 474)),none,(some (.str "Last" 861)),(some (.str "Last" 869)),(some (.builtin "object.__new__")),(some (.bool true))]⟩
def aJ0:=su 505 505 505
def aGT:=bm "object.__init_subclass__" (r 505)
def aHA(P:Params):=di [de P "__module__" 910 mv0,de P "__qualname__" 912 (.str "Near" 911),de P "__firstlineno__" 914 (.int 301 913),dr P "__init__" 922 521,dr P "days" 931 528,dr P "told" 938 535,dr P "__static_attributes__" 940 536] 7
def aPK:=fD 4 [(303,520),(306,527),(311,534)]
def aO6:=cK "Near" "Near" 905 301 511 908
def aKX:=fr 513 510 mv0
def aPE:=tS 918 ["self","day"]
def aHQ:=fz "__init__" "Near.__init__" (ib (tp 91) 0)
def aM8:=cO "__init__" "Near.__init__" 915 303 2 3 515 920
def aLH:=fQ "__init__" "Near.__init__" (ib (tp 91) 0) mv0 520
def aNC:=tS 926 ["self","last","first"]
def aOD:=fz "days" "Near.days" (ib (tp 91) 1)
def aOX:=cO "days" "Near.days" 923 306 3 3 522 929
def aG2:=fQ "days" "Near.days" (ib (tp 91) 1) mv0 527
def aKJ:=tS 935 ["self"]
def aNV:=fT "told" "Near.told" (ib (tp 91) 2) (ib (tp 90) 2)
def aMG:=cO "told" "Near.told" 932 311 1 3 529 936
def aQK:=fS "told" "Near.told" (ib (tp 91) 2) (ib (tp 90) 2) mv0 534
def aJZ:=tS 939 ["day"]
def aN5(P:Params):=di [de P "__module__" 910 mv0,de P "__firstlineno__" 914 (.int 301 913),dr P "__init__" 922 521,dr P "days" 931 528,dr P "told" 938 535,dr P "__static_attributes__" 940 536,de P "__doc__" 941 .none] 2
def aL4:Obj:=⟨(.type "type"),none,(.cls ⟨"Near",[(r 436)],[(r 538),(r 436),(.type "object")],537,"Near",true,[],[],false,none,false⟩),#[(some (r 508)),none,(some (.str "Near" 903)),(some (.str "Near" 911)),(some (.builtin "object.__new__")),(some (.bool true))]⟩
def aNR:=su 538 538 538
def aMD:=bm "object.__init_subclass__" (r 538)
def aQD(P:Params):=di [de P "__module__" 951 mv0,de P "__qualname__" 953 (.str "LastWork" 952),de P "__firstlineno__" 955 (.int 313 954),dr P "days" 964 554,dr P "told" 971 561,dr P "__static_attributes__" 972 562] 6
def aM0:=fD 4 [(315,553),(318,560)]
def aJ8:=cK "LastWork" "LastWork" 946 313 544 949
def aNY:=fr 546 543 mv0
def aMK:=tS 959 ["self","last","first"]
def aKS:=fT "days" "LastWork.days" (ib (tp 92) 0) (ib (tp 91) 1)
def aQO:=cO "days" "LastWork.days" 956 315 3 3 548 962
def aJT:=fS "days" "LastWork.days" (ib (tp 92) 0) (ib (tp 91) 1) mv0 553
def aIQ:=tS 968 ["self"]
def aJD:=fT "told" "LastWork.told" (ib (tp 92) 1) (ib (tp 88) 1)
def aOB:=cO "told" "LastWork.told" 965 318 1 3 555 969
def aKY:=fS "told" "LastWork.told" (ib (tp 92) 1) (ib (tp 88) 1) mv0 560
def aNB(P:Params):=di [de P "__module__" 951 mv0,de P "__firstlineno__" 955 (.int 313 954),dr P "days" 964 554,dr P "told" 971 561,dr P "__static_attributes__" 972 562,de P "__doc__" 973 .none] 2
def aJP:Obj:=⟨(.type "type"),none,(.cls ⟨"LastWork",[(r 436)],[(r 564),(r 436),(.type "object")],563,"LastWork",true,[],[],false,none,false⟩),#[(some (r 541)),none,(some (.str "LastWork" 944)),(some (.str "LastWork" 952)),(some (.builtin "object.__new__")),(some (.bool true))]⟩
def aM2:=su 564 564 564
def aIG:=bm "object.__init_subclass__" (r 564)
def aO9(P:Params):=di [de P "__module__" 983 mv0,de P "__qualname__" 985 (.str "Weekdays" 984),de P "__firstlineno__" 987 (.int 320 986),dr P "__init__" 995 580,dr P "days" 1006 587,dr P "told" 1013 594,dr P "__static_attributes__" 1015 595] 7
def aMA:=fD 4 [(322,579),(325,586),(331,593)]
def aN3:=cK "Weekdays" "Weekdays" 978 320 570 981
def aKG:=fr 572 569 mv0
def aKO:=tS 991 ["self","mask"]
def aKH:=fT "__init__" "Weekdays.__init__" (ib (tp 93) 0) (ib (tp 89) 0)
def aNO:=cO "__init__" "Weekdays.__init__" 988 322 2 3 574 993
def aP8:=fS "__init__" "Weekdays.__init__" (ib (tp 93) 0) (ib (tp 89) 0) mv0 579
def aQM:=tS 999 ["self","last","first","weeks","week"]
def aPS:=fz "days" "Weekdays.days" (ib (tp 93) 1)
def aOA:=cO "days" "Weekdays.days" 996 325 3 3 581 1004
def aI2:=fQ "days" "Weekdays.days" (ib (tp 93) 1) mv0 586
def aNT:=tS 1010 ["self"]
def aID:=fT "told" "Weekdays.told" (ib (tp 93) 2) (ib (tp 89) 2)
def aHM:=cO "told" "Weekdays.told" 1007 331 1 3 588 1011
def aQJ:=fS "told" "Weekdays.told" (ib (tp 93) 2) (ib (tp 89) 2) mv0 593
def aQU:=tS 1014 ["mask"]
def aQP(P:Params):=di [de P "__module__" 983 mv0,de P "__firstlineno__" 987 (.int 320 986),dr P "__init__" 995 580,dr P "days" 1006 587,dr P "told" 1013 594,dr P "__static_attributes__" 1015 595,de P "__doc__" 1016 .none] 2
def aMC:Obj:=⟨(.type "type"),none,(.cls ⟨"Weekdays",[(r 436)],[(r 597),(r 436),(.type "object")],596,"Weekdays",true,[],[],false,none,false⟩),#[(some (r 567)),none,(some (.str "Weekdays" 976)),(some (.str "Weekdays" 984)),(some (.builtin "object.__new__")),(some (.bool true))]⟩
def aGU:=su 597 597 597
def aLT:=bm "object.__init_subclass__" (r 597)
def aJE(P:Params):=di [de P "__module__" 1026 mv0,de P "__qualname__" 1028 (.str "Nth" 1027),de P "__firstlineno__" 1030 (.int 333 1029),dr P "__init__" 1039 613,dr P "days" 1049 620,dr P "told" 1056 627,dr P "__static_attributes__" 1059 628] 7
def aNI:=fD 4 [(335,612),(339,619),(345,626)]
def aLW:=cK "Nth" "Nth" 1021 333 603 1024
def aH7:=fr 605 602 mv0
def aN7:=tS 1034 ["self","weekday","many"]
def aPV:=fz "__init__" "Nth.__init__" (ib (tp 94) 0)
def aHL:=cO "__init__" "Nth.__init__" 1031 335 3 3 607 1037
def aHP:=fQ "__init__" "Nth.__init__" (ib (tp 94) 0) mv0 612
def aP9:=tS 1043 ["self","last","first","day"]
def aOM:=fz "days" "Nth.days" (ib (tp 94) 1)
def aOS:=cO "days" "Nth.days" 1040 339 3 3 614 1047
def aQH:=fQ "days" "Nth.days" (ib (tp 94) 1) mv0 619
def aO3:=tS 1053 ["self"]
def aGV:=fT "told" "Nth.told" (ib (tp 94) 2) (ib (tp 90) 2)
def aJF:=cO "told" "Nth.told" 1050 345 1 3 621 1054
def aGP:=fS "told" "Nth.told" (ib (tp 94) 2) (ib (tp 90) 2) mv0 626
def aO8:=tS 1057 ["many","weekday"]
def aJV(P:Params):=di [de P "__module__" 1026 mv0,de P "__firstlineno__" 1030 (.int 333 1029),dr P "__init__" 1039 613,dr P "days" 1049 620,dr P "told" 1056 627,dr P "__static_attributes__" 1059 628,de P "__doc__" 1060 .none] 2
def aL6:Obj:=⟨(.type "type"),none,(.cls ⟨"Nth",[(r 436)],[(r 630),(r 436),(.type "object")],629,"Nth",true,[],[],false,none,false⟩),#[(some (r 600)),none,(some (.str "Nth" 1019)),(some (.str "Nth" 1027)),(some (.builtin "object.__new__")),(some (.bool true))]⟩
def aI7:=su 630 630 630
def aM7:=bm "object.__init_subclass__" (r 630)
def t1(P:Params):BT:=brn 11 [(boot_o_0 P),(boot_o_1 P),(boot_o_2 P),(o4 P),(boot_o_4 P),(boot_o_5 P),(boot_o_6 P),(boot_o_7 P),(boot_o_8 P),(boot_o_9 P),(boot_o_10 P),o0,o5,o2,o3,o0,o1,o6,o0,o7,o8,o9,o10,o11,(o12 P),o0,o1,o13,o14,o0,(o15 P),o16,o17,o18,o19,o20,o11,(o21 P),o0,o1,o22,o23,o0,(o24 P),o25,o26,o27,o20,o11,(o28 P),o0,o29,o30,o31,o0,o1,o32,o0,o33,o34,o35,o36,(o37 P),o38,o39,o40,o20,o11,(o41 P),o0,o42,o43,o44,o0,o1,o45,o0,o46,o47,o48,o49,(o50 P),o51,o52,o53,o0,o1,o54,o0,o55,o56,o57,o58,o0,o1,o59,o0,o60,o61,o62,o0,o1,o63,o0,o64,o65,o66,o0,o1,o67,o0,o68,o69,o70,o0,o1,o71,o0,o72,o73,o74,o0,o1,o75,o0,o76,o77,o78,o0,o1,o79,o80,o81,o0,o1,o82,o0,o83,o84,o85,o0,o1,o86,o0,o87,o88,o89,o0,o1,o90,o0,o91,o92,o93,o0,o1,o94,o95,o96,o0,o1,o97,o0,o98,o99,aOR,o0,o1,aMW,o0,aMV,aH1,aKE,o0,o1,aGR,o0,aQX,aJI,aI8,o0,o1,aIM,o0,aON,aOC,aG0,o0,o1,aPM,o0,aJH,aMQ,aJA,o0,o1,aNL,o0,aN0,aIS,aJ1,o0,o1,aN2,o0,aHD,aQR,aKF,o0,o1,aMY,o0,aQT,aNZ,aP6,o0,o1,aG8,o0,aJ6,aNW,aH3,o0,o1,aPZ,aMF,aOQ,o0,o1,aGZ,o0,aHV,aJQ,aJ3,o0,o1,aHG,aNS,aK0,o0,o1,aIN,o0,aMZ,aNP,aJG,o0,o1,aPX,aOV,aL5,o0,o1,aPF,o0,aMR,aPN,aNA,o0,o1,aN9,o0,aI4,aQZ,aG4,o0,o1,aPI,o0,aJB,aNM,aKN,o0,o1,aNQ,o0,aGS,aMS,aPL,o0,o1,aO1,o0,aHX,aL3,aJ4,o0,o1,aI5,o0,aO2,aI6,aL2,o0,o1,aOW,o0,aPP,aLB,aPG,o0,o1,aNJ,o0,aJS,aPA,aH6,o0,o1,aMP,o0,aOT,aHB,aKL,o0,o1,aHU,aIZ,aKV,o0,o1,aM3,aKK,aKQ,aH4,aPB,o0,o1,aOK,aIR,aKR,aLV,aG5,o0,o1,aHK,o0,aN1,aOL,aMB,o0,o1,aNX,aJO,aIB,o0,o1,aQN,o0,aLK,aHE,aI3,o0,o1,aQQ,o0,aQV,aQC,aH8,o0,o1,aP5,aKD,aLZ,o0,o1,aIH,o0,aOI,aP0,aMJ,o0,o1,aLN,o0,aKT,aLD,aH2,o0,o1,aND,o0,aPU,aKM,aJW,o0,o1,aG6,o0,aJC,aLM,aH5,o0,o1,aQB,o0,aG1,aML,aK7,o0,o1,aGQ,o0,aJ7,aIU,aHY,o0,o1,aPH,o0,aL1,aH9,aIA,o0,o11,(aHW P),o0,aGW,aK4,aMX,o0,o1,aQI,o0,aHC,aOU,aOF,o0,o1,aPR,o0,aQL,aIW,aIY,o0,(aPC P),o258,aKW,aLR,aPY,aL9,ag7,o11,(aHZ P),o0,aK6,aP2,aHJ,o0,o1,aLY,o0,aNN,aK1,aJK,o0,o1,aLJ,o0,aNG,aM6,aP1,o0,o1,aLU,o0,aI9,aNF,aPT,aLA,(aHH P),aO7,aOZ,aPJ,ag7,o11,(aMH P),o0,aIE,aIV,aNU,aIJ,o0,o1,aK8,o0,aOY,aP7,aGO,o0,o1,aM5,o0,aLG,aLL,aJ2,o0,o1,aN8,o0,aQG,aKC,aO0,aLP,(aG3 P),aOH,aJ0,aGT,ag7,o11,(aHA P),o0,aPK,aO6,aKX,o0,o1,aPE,o0,aHQ,aM8,aLH,o0,o1,aNC,o0,aOD,aOX,aG2,o0,o1,aKJ,o0,aNV,aMG,aQK,aJZ,(aN5 P),aL4,aNR,aMD,ag7,o11,(aQD P),o0,aM0,aJ8,aNY,o0,o1,aMK,o0,aKS,aQO,aJT,o0,o1,aIQ,o0,aJD,aOB,aKY,o0,(aNB P),aJP,aM2,aIG,ag7,o11,(aO9 P),o0,aMA,aN3,aKG,o0,o1,aKO,o0,aKH,aNO,aP8,o0,o1,aQM,o0,aPS,aOA,aI2,o0,o1,aNT,o0,aID,aHM,aQJ,aQU,(aQP P),aMC,aGU,aLT,ag7,o11,(aJE P),o0,aNI,aLW,aH7,o0,o1,aN7,o0,aPV,aHL,aHP,o0,o1,aP9,o0,aOM,aOS,aQH,o0,o1,aO3,o0,aGV,aJF,aGP,aO8,(aJV P),aL6,aI7,aM7]
def s1(w:World)(os:OsState):SharedT:=⟨t1 w.params,633,⟨[],[],[],0,[],[],false,#[],[],0,false,false,false,0,[2000,10,10],false,0,true,[],[],0,false⟩,#[],⟨0,0,0,0⟩,1063,os⟩
def l0:List Stmt:=(bi.drop 0).take 95
theorem r0(w:World)(os:OsState):
  segRunT treeTable pw w 11 an 1 4808 (s0 w os) (piecesOf l0 ev cd ⟨0,0,0,0⟩ bk) =
  some (.next,s1 w os,cd,⟨333,0,346,55⟩):=by kernel_rfl
def o386(P:Params):=di [de P "__name__" 165 mv8,de P "__doc__" 166 .none,de P "__package__" 167 .none,de P "__loader__" 168 (.builtin "__main__.__loader__#opaque"),de P "__spec__" 169 .none,dr P "__annotations__" 170 6,dr P "__builtins__" 171 4,de P "__file__" 173 (sf 172),de P "__cached__" 174 .none,dr P "_wall" 193 21,dr P "FieldError" 213 31,dr P "NoDay" 229 44,dr P "NoField" 254 63,dr P "NoRow" 279 82,dr P "is_whole" 288 91,dr P "MONTH_LASTS" 303 92,de P "ROUND_YEARS" 305 (.int 400 304),de P "ROUND_DAYS" 307 (.int 146097 306),dr P "is_long" 314 99,dr P "multiples_before" 322 106,dr P "days_before" 330 113,dr P "last_of" 338 120,dr P "is_date" 347 127,dr P "day_of" 353 132,dr P "year_of" 361 139,dr P "date_of" 371 146,dr P "weekday" 378 153,de P "FIGURES" 382 (.str "0123456789" 381),dr P "all_figures" 388 158,dr P "is_written" 395 165,de P "DAY_MINUTES" 399 (.int 1440 398),de P "HOUR_MINUTES" 401 (.int 60 400),dr P "parted" 409 172,de P "KINDS" 413 (.int 91 412),de P "LONG_PLACE" 415 (.int 12 414),de P "LONG_LAST" 417 (.int 29 416),de P "SHORT_YEAR" 419 (.int 1 418),dr P "kind_from" 429 179,dr P "kind_of" 437 186,dr P "month_at" 446 193,dr P "next_month" 454 200,dr P "month_before" 462 207,dr P "has" 472 214,dr P "lowest" 479 221,dr P "starts_of" 485 226,dr P "end_from" 494 233,dr P "ranges_of" 500 238,dr P "shown_range" 508 245,dr P "shown_ranges" 514 250,dr P "add_stretch" 526 257,dr P "last_shut_day" 537 264,dr P "shut_end" 546 271,dr P "paper_of" 559 278,de P "MOST_MONTHS" 563 (.int 492 562),de P "MOST_MONTH_MINUTES" 565 (.int 44640 564),dr P "minutes_on" 575 285,dr P "minutes_by" 584 292,dr P "month_of" 592 299,dr P "first_at" 606 306,dr P "final_at" 620 313,dr P "never" 626 318,dr P "next_from" 636 325,dr P "last_to" 646 332,de P "MOST_SIGNS" 650 (.int 300 649),de P "MOST_ITEMS" 652 (.int 40 651),de P "MOST_STRIDE" 654 (.int 99 653),dr P "mask_of" 663 339,dr P "numbers_in" 669 344,dr P "run_mask" 678 351,dr P "read_number" 688 358,dr P "read_run" 694 363,dr P "read_strided" 707 370,dr P "read_item" 718 377,dr P "read_field" 732 384,de P "MOST_MARKS" 736 (.int 20 735),de P "MOST_DAY" 738 (.int 31 737),de P "MOST_BACK" 740 (.int 30 739),de P "MOST_NTH" 742 (.int 5 741),de P "SUNDAY" 744 (.int 0 743),de P "SATURDAY" 746 (.int 6 745),de P "SUNDAY_TOO" 748 (.int 7 747),de P "ALL_WEEKDAYS" 750 (.int 127 749),dr P "weekday_at" 758 391,dr P "all_days" 765 398,dr P "nearest_work" 775 405,dr P "first_one" 783 412,dr P "Mark" 819 436,dr P "Numbers" 860 471,dr P "Last" 902 505,dr P "Near" 943 538,dr P "LastWork" 975 564,dr P "Weekdays" 1018 597,dr P "Nth" 1062 630,dr P "LastOne" 1103 663,dr P "any_days" 1114 672,dr P "read_day_mark" 1123 679,dr P "read_weekday" 1131 686,dr P "read_weekday_mark" 1141 693,dr P "read_items" 1158 700,dr P "read_days" 1166 707,dr P "read_weekdays" 1175 714,de P "MOST_ROW_SIGNS" 1179 (.int 1600 1178),de P "MINUTE" 1181 (.int 0 1180),de P "HOUR" 1183 (.int 1 1182),de P "DAY" 1185 (.int 2 1184),de P "MONTH" 1187 (.int 3 1186),de P "WEEKDAY" 1189 (.int 4 1188),de P "NO_PLACE" 1191 (.int 5 1190),dr P "BOUNDS" 1204 715,dr P "times_of" 1214 725,dr P "days_by" 1226 732,dr P "Row" 1328 810,dr P "read_word" 1337 821,dr P "read_at" 1345 828,dr P "read_row" 1351 833,dr P "_law_cell_at" 1361 840,dr P "_law_stir" 1370 847,dr P "_law_digits" 1381 854,dr P "_law_whole" 1388 861,dr P "_law_rare" 1398 868,dr P "_law_spec" 1404 873,dr P "_law_near" 1415 880,dr P "_law_marked" 1421 885,dr P "_law_any" 1432 892,dr P "_law_day_held" 1444 899,dr P "_law_never" 1456 906,dr P "_law_right" 1467 913,dr P "law" 1478 920] 128
def o387:=fD 0 [(1,20),(5,27),(7,40),(9,52),(13,71),(18,90),(24,98),(26,105),(28,112),(31,119),(35,126),(39,131),(44,138),(49,145),(57,152),(61,157),(63,164),(68,171),(76,178),(79,185),(81,192),(87,199),(91,206),(96,213),(98,220),(100,225),(103,232),(108,237),(110,244),(114,249),(117,256),(122,263),(129,270),(135,277),(147,284),(152,291),(156,298),(159,305),(170,312),(181,317),(183,324),(188,331),(197,338),(202,343),(204,350),(206,357),(213,362),(220,369),(227,376),(235,383),(257,390),(259,397),(261,404),(268,411),(270,418),(277,446),(287,479),(301,513),(313,546),(320,572),(333,605),(347,638),(357,671),(362,678),(374,685),(377,692),(389,699),(407,706),(414,713),(431,724),(436,731),(444,738),(495,820),(502,827),(507,832),(515,839),(519,846),(523,853),(534,860),(536,867),(542,872),(558,879),(564,884),(580,891),(585,898),(595,905),(606,912),(616,919)]
def o388:Obj:=⟨(.type "type"),none,(.cls ⟨"Mark",[(.type "object")],[(r 436),(.type "object")],435,"Mark",true,[],[(r 471),(r 505),(r 538),(r 564),(r 597),(r 630),(r 663)],false,none,false⟩),#[none,none,(some (.str "Mark" 784)),(some (.str "Mark" 792)),(some (.builtin "object.__new__")),(some (.bool true))]⟩
def o389(P:Params):=di [de P "__module__" 1070 mv0,de P "__qualname__" 1072 (.str "LastOne" 1071),de P "__firstlineno__" 1074 (.int 347 1073),dr P "__init__" 1082 646,dr P "days" 1091 653,dr P "told" 1098 660,dr P "__static_attributes__" 1100 661] 7
def o390:=fD 4 [(349,645),(352,652),(355,659)]
def o391:=cK "LastOne" "LastOne" 1065 347 636 1068
def o392:=fr 638 635 mv0
def o393:=tS 1078 ["self","weekday"]
def o394:=fz "__init__" "LastOne.__init__" (ib (tp 95) 0)
def o395:=cO "__init__" "LastOne.__init__" 1075 349 2 3 640 1080
def o396:=fQ "__init__" "LastOne.__init__" (ib (tp 95) 0) mv0 645
def o397:=tS 1086 ["self","last","first"]
def o398:=fz "days" "LastOne.days" (ib (tp 95) 1)
def o399:=cO "days" "LastOne.days" 1083 352 3 3 647 1089
def o400:=fQ "days" "LastOne.days" (ib (tp 95) 1) mv0 652
def o401:=tS 1095 ["self"]
def o402:=fT "told" "LastOne.told" (ib (tp 95) 2) (ib (tp 90) 2)
def o403:=cO "told" "LastOne.told" 1092 355 1 3 654 1096
def o404:=fS "told" "LastOne.told" (ib (tp 95) 2) (ib (tp 90) 2) mv0 659
def o405:=tS 1099 ["weekday"]
def o406(P:Params):=di [de P "__module__" 1070 mv0,de P "__firstlineno__" 1074 (.int 347 1073),dr P "__init__" 1082 646,dr P "days" 1091 653,dr P "told" 1098 660,dr P "__static_attributes__" 1100 661,de P "__doc__" 1101 .none] 2
def o407:Obj:=⟨(.type "type"),none,(.cls ⟨"LastOne",[(r 436)],[(r 663),(r 436),(.type "object")],662,"LastOne",true,[],[],false,none,false⟩),#[(some (r 633)),none,(some (.str "LastOne" 1063)),(some (.str "LastOne" 1071)),(some (.builtin "object.__new__")),(some (.bool true))]⟩
def o408:=su 663 663 663
def o409:=bm "object.__init_subclass__" (r 663)
def o410:=tS 1107 ["marks","last","first","mask","mark"]
def o411:=fY "any_days" 96
def o412:=cP "any_days" 1104 357 3 3 666 1112
def o413:=fP "any_days" 96 mv0 671
def o414:=tS 1118 ["item","back","day"]
def o415:=fY "read_day_mark" 97
def o416:=cP "read_day_mark" 1115 362 1 3 673 1121
def o417:=fP "read_day_mark" 97 mv0 678
def o418:=tS 1127 ["text","number"]
def o419:=fY "read_weekday" 98
def o420:=cP "read_weekday" 1124 374 1 3 680 1129
def o421:=fP "read_weekday" 98 mv0 685
def o422:=tS 1135 ["item","weekday","parts","many"]
def o423:=fY "read_weekday_mark" 99
def o424:=cP "read_weekday_mark" 1132 377 1 3 687 1139
def o425:=fP "read_weekday_mark" 99 mv0 692
def o426:=tS 1145 ["text","low","high","read_mark","items","mask","marks","place","item","plain","mark"]
def o427:=fY "read_items" 100
def o428:=cP "read_items" 1142 389 4 3 694 1156
def o429:=fP "read_items" 100 mv0 699
def o430:=tS 1162 ["text","read"]
def o431:=fY "read_days" 101
def o432:=cP "read_days" 1159 407 1 3 701 1164
def o433:=fP "read_days" 101 mv0 706
def o434:=tS 1170 ["text","read","mask"]
def o435:=fY "read_weekdays" 102
def o436:=cP "read_weekdays" 1167 414 1 3 708 1173
def o437:=fP "read_weekdays" 102 mv0 713
def o438:=di [⟨0,(.int 0 1192),(r 716)⟩,⟨1,(.int 1 1195),(r 717)⟩,⟨3,(.int 3 1198),(r 718)⟩] 3
def o439:=tu [(.int 0 1193),(.int 59 1194)]
def o440:=tu [(.int 0 1196),(.int 23 1197)]
def o441:=tu [(.int 1 1199),(.int 12 1200)]
def o442:=tS 1208 ["hours","minutes","times","hour"]
def o443:=fY "times_of" 112
def o444:=cP "times_of" 1205 431 2 3 719 1212
def o445:=fP "times_of" 112 mv9 724
def o446:=tS 1218 ["days","weekdays","last","first","mask","marks"]
def o447:=fY "days_by" 113
def o448:=cP "days_by" 1215 436 4 3 726 1224
def o449:=fP "days_by" 113 mv9 731
def o450(P:Params):=di [de P "__module__" 1234 mv9,de P "__qualname__" 1236 (.str "Row" 1235),de P "__firstlineno__" 1238 (.int 444 1237),dr P "__init__" 1246 746,dr P "minutes" 1253 753,dr P "hours" 1260 760,dr P "months" 1267 767,dr P "times" 1274 774,dr P "days_in" 1283 781,dr P "on_days" 1289 786,dr P "holds" 1297 793,dr P "shut_by" 1307 800,dr P "shown" 1314 807,dr P "__static_attributes__" 1321 808] 14
def o451:=fD 4 [(446,745),(454,752),(457,759),(460,766),(463,773),(466,780),(472,785),(477,792),(480,799),(493,806)]
def o452:=cK "Row" "Row" 1229 444 736 1232
def o453:=fr 738 735 mv9
def o454:=tS 1242 ["self","fields"]
def o455:=fz "__init__" "Row.__init__" (ib (tp 114) 0)
def o456:=cO "__init__" "Row.__init__" 1239 446 2 3 740 1244
def o457:=fQ "__init__" "Row.__init__" (ib (tp 114) 0) mv9 745
def o458:=tS 1250 ["self"]
def o459:=fT "minutes" "Row.minutes" (ib (tp 114) 1) (ib (tp 88) 1)
def o460:=cO "minutes" "Row.minutes" 1247 454 1 3 747 1251
def o461:=fS "minutes" "Row.minutes" (ib (tp 114) 1) (ib (tp 88) 1) mv9 752
def o462:=tS 1257 ["self"]
def o463:=fT "hours" "Row.hours" (ib (tp 114) 2) (ib (tp 88) 1)
def o464:=cO "hours" "Row.hours" 1254 457 1 3 754 1258
def o465:=fS "hours" "Row.hours" (ib (tp 114) 2) (ib (tp 88) 1) mv9 759
def o466:=tS 1264 ["self"]
def o467:=fz "months" "Row.months" (ib (tp 114) 3)
def o468:=cO "months" "Row.months" 1261 460 1 3 761 1265
def o469:=fQ "months" "Row.months" (ib (tp 114) 3) mv9 766
def o470:=tS 1271 ["self"]
def o471:=fT "times" "Row.times" (ib (tp 114) 4) (ib (tp 88) 1)
def o472:=cO "times" "Row.times" 1268 463 1 3 768 1272
def o473:=fS "times" "Row.times" (ib (tp 114) 4) (ib (tp 88) 1) mv9 773
def o474:=tS 1278 ["self","kind","month"]
def o475:=fz "days_in" "Row.days_in" (ib (tp 114) 5)
def o476:=cO "days_in" "Row.days_in" 1275 466 2 3 775 1281
def o477:=fQ "days_in" "Row.days_in" (ib (tp 114) 5) mv9 780
def o478:=fz "on_days" "Row.on_days" (ib (tp 114) 6)
def o479:=co [(.str "on_days" 1284),(.str "Row.on_days" 1285),(sf 1286),(i 472),(i 2),(i 0),(i 0),(i 3),(r 782),(.bool true),(i 181),(r 783),.none,.none,.none,(r 784),(i 1287),(i 472),(sf 1288)]
def o480:=fQ "on_days" "Row.on_days" (ib (tp 114) 6) mv9 785
def o481:=tS 1293 ["self","moment"]
def o482:=fz "holds" "Row.holds" (ib (tp 114) 7)
def o483:=cO "holds" "Row.holds" 1290 477 2 3 787 1295
def o484:=fQ "holds" "Row.holds" (ib (tp 114) 7) mv9 792
def o485:=tS 1301 ["self","moment","parts","date"]
def o486:=fz "shut_by" "Row.shut_by" (ib (tp 114) 8)
def o487:=cO "shut_by" "Row.shut_by" 1298 480 2 3 794 1305
def o488:=fQ "shut_by" "Row.shut_by" (ib (tp 114) 8) mv9 799
def o489:=tS 1311 ["self"]
def o490:=fT "shown" "Row.shown" (ib (tp 114) 9) (ib (tp 114) 3)
def o491:=cO "shown" "Row.shown" 1308 493 1 3 801 1312
def o492:=fS "shown" "Row.shown" (ib (tp 114) 9) (ib (tp 114) 3) mv9 806
def o493:=tS 1315 ["day_marks","hour_mask","minute_mask","month_mask","time_mask","weekday_marks"]
def o494(P:Params):=di [de P "__module__" 1234 mv9,de P "__firstlineno__" 1238 (.int 444 1237),dr P "__init__" 1246 746,dr P "minutes" 1253 753,dr P "hours" 1260 760,dr P "months" 1267 767,dr P "times" 1274 774,dr P "days_in" 1283 781,dr P "on_days" 1289 786,dr P "holds" 1297 793,dr P "shut_by" 1307 800,dr P "shown" 1314 807,dr P "__static_attributes__" 1321 808,dr P "__dict__" 1323 811,dr P "__weakref__" 1325 812,de P "__doc__" 1326 .none] 4
def o495:Obj:=⟨(.type "type"),none,(.cls ⟨"Row",[(.type "object")],[(r 810),(.type "object")],809,"Row",true,[],[],false,none,false⟩),#[none,none,(some (.str "Row" 1227)),(some (.str "Row" 1235)),(some (.builtin "object.__new__")),(some (.bool true))]⟩
def o496:Obj:=⟨(.type "getset_descriptor"),none,(.fields #[(.str "__dict__" 1322),(r 810),(.builtin "function.__dict__"),(.builtin "function.__dict__#set")]),#[]⟩
def o497:Obj:=⟨(.type "getset_descriptor"),none,(.fields #[(.str "__weakref__" 1324),(r 810),(.builtin "ExceptionGroup.__weakref__"),.none]),#[]⟩
def o498:=su 810 810 810
def o499:=bm "object.__init_subclass__" (r 810)
def o500:=tS 1332 ["word","place","bounds"]
def o501:=fY "read_word" 115
def o502:=cP "read_word" 1329 495 2 3 815 1335
def o503:=fP "read_word" 115 mv9 820
def o504:=tS 1341 ["word","place"]
def o505:=fY "read_at" 116
def o506:=cP "read_at" 1338 502 2 3 822 1343
def o507:=fP "read_at" 116 mv9 827
def o508:=fY "read_row" 117
def o509:=co [(.str "read_row" 1346),(.str "read_row" 1347),(sf 1348),(i 507),(i 1),(i 0),(i 0),(i 3),(r 829),(.bool true),(i 181),(r 830),.none,.none,.none,(r 831),(i 1349),(i 507),(sf 1350)]
def o510:=fP "read_row" 117 mv9 832
def o511:=tS 1357 ["_law_script","_law_k"]
def o512:=fY "_law_cell_at" 119
def o513:=cP "_law_cell_at" 1354 515 2 3 834 1359
def o514:=fP "_law_cell_at" 119 mv8 839
def o515:=tS 1365 ["_law_number","_law_first","_law_second"]
def o516:=fY "_law_stir" 120
def o517:=cP "_law_stir" 1362 519 1 3 841 1368
def o518:=fP "_law_stir" 120 mv8 846
def o519:=tS 1374 ["_law_cell","_law_sizes","_law_mixed","_law_found","_law_size"]
def o520:=fY "_law_digits" 121
def o521:=cP "_law_digits" 1371 523 3 3 848 1379
def o522:=fP "_law_digits" 121 mv8 853
def o523:=tS 1385 ["_law_found"]
def o524:=fY "_law_whole" 122
def o525:=cP "_law_whole" 1382 534 1 3 855 1386
def o526:=fP "_law_whole" 122 mv8 860
def o527:=tS 1392 ["_law_sort","_law_one","_law_later","_law_some"]
def o528:=fY "_law_rare" 123
def o529:=cP "_law_rare" 1389 536 3 3 862 1396
def o530:=fP "_law_rare" 123 mv8 867
def o531:=fY "_law_spec" 124
def o532:=co [(.str "_law_spec" 1399),(.str "_law_spec" 1400),(sf 1401),(i 542),(i 2),(i 0),(i 0),(i 3),(r 869),(.bool true),(i 181),(r 870),.none,.none,.none,(r 871),(i 1402),(i 542),(sf 1403)]
def o533:=fP "_law_spec" 124 mv8 872
def o534:=tS 1408 ["_law_day","_law_last","_law_first","_law_gap","_law_one"]
def o535:=fY "_law_near" 125
def o536:=cP "_law_near" 1405 558 3 3 874 1413
def o537:=fP "_law_near" 125 mv8 879
def o538:=fY "_law_marked" 126
def o539:=co [(.str "_law_marked" 1416),(.str "_law_marked" 1417),(sf 1418),(i 564),(i 4),(i 0),(i 0),(i 3),(r 881),(.bool true),(i 181),(r 882),.none,.none,.none,(r 883),(i 1419),(i 564),(sf 1420)]
def o540:=fP "_law_marked" 126 mv8 884
def o541:=tS 1425 ["_law_marks","_law_day","_law_last","_law_first","_law_mark"]
def o542:=fY "_law_any" 127
def o543:=cP "_law_any" 1422 580 4 3 886 1430
def o544:=fP "_law_any" 127 mv8 891
def o545:=tS 1436 ["_law_spec_here","_law_day","_law_last","_law_first","_law_days","_law_weekdays"]
def o546:=fY "_law_day_held" 128
def o547:=cP "_law_day_held" 1433 585 4 3 893 1442
def o548:=fP "_law_day_held" 128 mv8 898
def o549:=tS 1448 ["_law_spec_here","_law_month","_law_ends","_law_last","_law_first","_law_day"]
def o550:=fY "_law_never" 129
def o551:=cP "_law_never" 1445 595 1 3 900 1454
def o552:=fP "_law_never" 129 mv8 905
def o553:=tS 1460 ["_law_row","_law_due","_law_moment","_law_found","_law_told"]
def o554:=fY "_law_right" 130
def o555:=cP "_law_right" 1457 606 3 3 907 1465
def o556:=fP "_law_right" 130 mv8 912
def o557:=tS 1471 ["_law_script","_law_mixed","_law_k","_law_cell","_law_spec_here"]
def o558:=fY "law" 131
def o559:=cP "law" 1468 616 1 3 914 1476
def o560:=fP "law" 131 mv8 919
def hL(P:Params):List Obj:=[(boot_o_0 P),(boot_o_1 P),(boot_o_2 P),(o386 P),(boot_o_4 P),(boot_o_5 P),(boot_o_6 P),(boot_o_7 P),(boot_o_8 P),(boot_o_9 P),(boot_o_10 P),o0,o387,o2,o3,o0,o1,o6,o0,o7,o8,o9,o10,o11,(o12 P),o0,o1,o13,o14,o0,(o15 P),o16,o17,o18,o19,o20,o11,(o21 P),o0,o1,o22,o23,o0,(o24 P),o25,o26,o27,o20,o11,(o28 P),o0,o29,o30,o31,o0,o1,o32,o0,o33,o34,o35,o36,(o37 P),o38,o39,o40,o20,o11,(o41 P),o0,o42,o43,o44,o0,o1,o45,o0,o46,o47,o48,o49,(o50 P),o51,o52,o53,o0,o1,o54,o0,o55,o56,o57,o58,o0,o1,o59,o0,o60,o61,o62,o0,o1,o63,o0,o64,o65,o66,o0,o1,o67,o0,o68,o69,o70,o0,o1,o71,o0,o72,o73,o74,o0,o1,o75,o0,o76,o77,o78,o0,o1,o79,o80,o81,o0,o1,o82,o0,o83,o84,o85,o0,o1,o86,o0,o87,o88,o89,o0,o1,o90,o0,o91,o92,o93,o0,o1,o94,o95,o96,o0,o1,o97,o0,o98,o99,aOR,o0,o1,aMW,o0,aMV,aH1,aKE,o0,o1,aGR,o0,aQX,aJI,aI8,o0,o1,aIM,o0,aON,aOC,aG0,o0,o1,aPM,o0,aJH,aMQ,aJA,o0,o1,aNL,o0,aN0,aIS,aJ1,o0,o1,aN2,o0,aHD,aQR,aKF,o0,o1,aMY,o0,aQT,aNZ,aP6,o0,o1,aG8,o0,aJ6,aNW,aH3,o0,o1,aPZ,aMF,aOQ,o0,o1,aGZ,o0,aHV,aJQ,aJ3,o0,o1,aHG,aNS,aK0,o0,o1,aIN,o0,aMZ,aNP,aJG,o0,o1,aPX,aOV,aL5,o0,o1,aPF,o0,aMR,aPN,aNA,o0,o1,aN9,o0,aI4,aQZ,aG4,o0,o1,aPI,o0,aJB,aNM,aKN,o0,o1,aNQ,o0,aGS,aMS,aPL,o0,o1,aO1,o0,aHX,aL3,aJ4,o0,o1,aI5,o0,aO2,aI6,aL2,o0,o1,aOW,o0,aPP,aLB,aPG,o0,o1,aNJ,o0,aJS,aPA,aH6,o0,o1,aMP,o0,aOT,aHB,aKL,o0,o1,aHU,aIZ,aKV,o0,o1,aM3,aKK,aKQ,aH4,aPB,o0,o1,aOK,aIR,aKR,aLV,aG5,o0,o1,aHK,o0,aN1,aOL,aMB,o0,o1,aNX,aJO,aIB,o0,o1,aQN,o0,aLK,aHE,aI3,o0,o1,aQQ,o0,aQV,aQC,aH8,o0,o1,aP5,aKD,aLZ,o0,o1,aIH,o0,aOI,aP0,aMJ,o0,o1,aLN,o0,aKT,aLD,aH2,o0,o1,aND,o0,aPU,aKM,aJW,o0,o1,aG6,o0,aJC,aLM,aH5,o0,o1,aQB,o0,aG1,aML,aK7,o0,o1,aGQ,o0,aJ7,aIU,aHY,o0,o1,aPH,o0,aL1,aH9,aIA,o0,o11,(aHW P),o0,aGW,aK4,aMX,o0,o1,aQI,o0,aHC,aOU,aOF,o0,o1,aPR,o0,aQL,aIW,aIY,o0,(aPC P),o388,aKW,aLR,aPY,aL9,ag7,o11,(aHZ P),o0,aK6,aP2,aHJ,o0,o1,aLY,o0,aNN,aK1,aJK,o0,o1,aLJ,o0,aNG,aM6,aP1,o0,o1,aLU,o0,aI9,aNF,aPT,aLA,(aHH P),aO7,aOZ,aPJ,ag7,o11,(aMH P),o0,aIE,aIV,aNU,aIJ,o0,o1,aK8,o0,aOY,aP7,aGO,o0,o1,aM5,o0,aLG,aLL,aJ2,o0,o1,aN8,o0,aQG,aKC,aO0,aLP,(aG3 P),aOH,aJ0,aGT,ag7,o11,(aHA P),o0,aPK,aO6,aKX,o0,o1,aPE,o0,aHQ,aM8,aLH,o0,o1,aNC,o0,aOD,aOX,aG2,o0,o1,aKJ,o0,aNV,aMG,aQK,aJZ,(aN5 P),aL4,aNR,aMD,ag7,o11,(aQD P),o0,aM0,aJ8,aNY,o0,o1,aMK,o0,aKS,aQO,aJT,o0,o1,aIQ,o0,aJD,aOB,aKY,o0,(aNB P),aJP,aM2,aIG,ag7,o11,(aO9 P),o0,aMA,aN3,aKG,o0,o1,aKO,o0,aKH,aNO,aP8,o0,o1,aQM,o0,aPS,aOA,aI2,o0,o1,aNT,o0,aID,aHM,aQJ,aQU,(aQP P),aMC,aGU,aLT,ag7,o11,(aJE P),o0,aNI,aLW,aH7,o0,o1,aN7,o0,aPV,aHL,aHP,o0,o1,aP9,o0,aOM,aOS,aQH,o0,o1,aO3,o0,aGV,aJF,aGP,aO8,(aJV P),aL6,aI7,aM7,ag7,o11,(o389 P),o0,o390,o391,o392,o0,o1,o393,o0,o394,o395,o396,o0,o1,o397,o0,o398,o399,o400,o0,o1,o401,o0,o402,o403,o404,o405,(o406 P),o407,o408,o409,o0,o1,o410,o0,o411,o412,o413,o0,o1,o414,o0,o415,o416,o417,o0,o1,o418,o0,o419,o420,o421,o0,o1,o422,o0,o423,o424,o425,o0,o1,o426,o0,o427,o428,o429,o0,o1,o430,o0,o431,o432,o433,o0,o1,o434,o0,o435,o436,o437,o438,o439,o440,o441,o0,o1,o442,o0,o443,o444,o445,o0,o1,o446,o0,o447,o448,o449,o0,o11,(o450 P),o0,o451,o452,o453,o0,o1,o454,o0,o455,o456,o457,o0,o1,o458,o0,o459,o460,o461,o0,o1,o462,o0,o463,o464,o465,o0,o1,o466,o0,o467,o468,o469,o0,o1,o470,o0,o471,o472,o473,o0,o1,o474,o0,o475,o476,o477,o0,o1,o478,o479,o480,o0,o1,o481,o0,o482,o483,o484,o0,o1,o485,o0,o486,o487,o488,o0,o1,o489,o0,o490,o491,o492,o493,(o494 P),o495,o496,o497,o498,o499,o0,o1,o500,o0,o501,o502,o503,o0,o1,o504,o0,o505,o506,o507,o0,o1,o508,o509,o510,o0,o1,o511,o0,o512,o513,o514,o0,o1,o515,o0,o516,o517,o518,o0,o1,o519,o0,o520,o521,o522,o0,o1,o523,o0,o524,o525,o526,o0,o1,o527,o0,o528,o529,o530,o0,o1,o531,o532,o533,o0,o1,o534,o0,o535,o536,o537,o0,o1,o538,o539,o540,o0,o1,o541,o0,o542,o543,o544,o0,o1,o545,o0,o546,o547,o548,o0,o1,o549,o0,o550,o551,o552,o0,o1,o553,o0,o554,o555,o556,o0,o1,o557,o0,o558,o559,o560]
def t2(P:Params):BT:=brn 11 (hL P)
def s2(w:World)(os:OsState):SharedT:=⟨t2 w.params,921,⟨[],[],[],0,[],[],false,#[],[],0,false,false,false,0,[2000,10,10],false,0,true,[],[],0,false⟩,#[],⟨0,0,0,0⟩,1479,os⟩
def l1:List Stmt:=(bi.drop 95).take 37
theorem r1(w:World)(os:OsState):
  segRunT treeTable pw w 11 an 1 1744 (s1 w os) (piecesOf l1 ev cd ⟨333,0,346,55⟩ bk) =
  some (.next,s2 w os,cd,⟨616,0,623,15⟩):=
 byRow2 "special-get-raises" (P:=fun w=>segRunT treeTable pw w 11 an 1 1744 (s1 w os) (piecesOf l1 ev cd ⟨333,0,346,55⟩ bk)=some (.next,s2 w os,cd,⟨616,0,623,15⟩)) (fun w=>by kernel_rfl) (fun w=>by kernel_rfl) w
def hF(P:Params):Heap:=⟨⟨hL P⟩,⟨[],[],[],0,[],[],false,#[],[],0,false,false,false,0,[2000,10,10],false,0,true,[],[],0,false⟩⟩
def sF(w:World)(os:OsState):Shared:=⟨hF w.params,#[],⟨0,0,0,0⟩,1479,os⟩
theorem fin(w:World)(os:OsState):
  topRun treeTable pw w 11 an 2 (s2 w os).abs (restOf [] ev cd ⟨616,0,623,15⟩ bk) =
  some (sF w os):=by kernel_rfl
theorem bis:bi=(l0++(l1++[])):=by kernel_rfl
theorem run(w:World)(os:OsState):topRun treeTable pw w 11 an (12+(1+(4808+(1744+(2))))) ⟨boot_heap w.params,⟨[]⟩,boot_drawn,boot_toks,os⟩ (topStub pw)=some (sF w os):=by
 refine go_top (pre w os) (piece_block (blk w os) ?_)
 rw[bis]
 exact (piece_app (segRun_of (r0 w os)) (piece_app (segRun_of (r1 w os)) (fin w os)))
theorem opn:∀w:World,(fencedOpening treeTable pw w 13226).map (fun s=>(s.heap,s.gens,s.drawn,s.toks))=some (boot_heap w.params,⟨[]⟩,boot_drawn,boot_toks):=
 boot_open (by kernel_rfl) rfl (fun s=>by kernel_rfl)
theorem siz(w:World):((boot_heap w.params).isNs mainGlobals&&(⟨[]⟩:Array GenState).size==0,(boot_heap w.params).objs.size,(boot_heap w.params).nsMap mainGlobals "__annotations__")=(true,11,an):=by kernel_rfl
end
end
theorem aKP{q:Program}{loose mods:List Str}{Xt:Shared->Bool}{s:Shared}
  (e1:seen ((recsOf q).map (·.name)) (ownsOf q) [] {s with gens:= #[]}=expectedOf q) (e2:s.heap.bltView=bltViewBooted)
  (a1:s.heap.keysOk (looseW q loose) ((recsOf q).map (·.name)) ((litsOf q).map (·.1)) ((clssOf q (looseW q loose)).map (·.name))=true)
  (a2:s.heap.accountedOkI mods=true) (a3:s.heap.isNs mainGlobals=true) (a4:s.heap.isNs builtinsNs=true)
  (a5:tablesOk q s.heap=true) (a6:Xt s=true) (a7:(s.gens.size==0)=true) (e4:tabsOk q s=true)
  (e5:pinSeenD q (drecsOf q) s=pinGoodD (drecsOf q)) (e6:plainSeenE q (looseW q loose) s=plainGoodE q (looseW q loose))
  (e7:plainSeenD q loose s=plainGoodD q loose) (e8:wideSeen q s=wideGood q) (e9:clsSeenW q loose s=clsGoodW q loose):
  openSeen q loose mods Xt true s=openGood q loose:=by
 unfold openSeen openGood
 rw[e1,e2,a1,a2,a3,a4,a5,a6,if_pos rfl,a7,e4,e5,e6,e7,e8,e9];rfl
theorem aL8{α:Type}(n:Nat){l r:List α}(h1:l.take n=r.take n)(h2:l.drop n=r.drop n):l=r:=by
 rw[←List.take_append_drop n l,h1,h2,List.take_append_drop]
noncomputable def aaL:Program:=view PySem.Challenge.pw_fivefields_k53_never [0,2,3,4,5,7,9,10,11,12,13,14,15,16,17,18,19,20,22,23,24,26,27,28,30,31,32,33,34,35,36,37,38,40,41,42,43,44,45,46,48,49,50,51,53,54,55,56,57,58,59,60,61,62,64,65,66,67,68,69,70,71,72,73,74,76,77,78,79,80,81,82,83,84,85,86,87,88,89,90,91,92,93,94,95,96,97,98,99,100,101,102,104,105,106,107,108,109,110,111,112,113,114,115,116,117,119,120,121,122,123,124,125,126,127,128,129,130,131]
noncomputable def free:List Str:=[Str.ofString "Last",Str.ofString "BOUNDS"]
noncomputable def read:List (Str×WData):=[]
section
set_option maxHeartbeats 0
set_option maxRecDepth 100000
noncomputable section
def XT:Shared->Bool:=fun z=>xlAt aaL read z&&recOk (RowW.records (OpenRow.toRowW (OpenLaw.row PySem.Challenge.rw_fivefields_k53_never))) z
abbrev SE(w:World)(os:OsState):=openSeen aaL free (importedModules pw.main.body) XT true (sF w os)
section
variable(w:World)(os:OsState)
theorem z1:seen ((recsOf aaL).map (·.name)) (ownsOf aaL) [] {sF w os with gens:= #[]}=expectedOf aaL:=by kernel_rfl
theorem z2:(sF w os).heap.bltView=bltViewBooted:=by kernel_rfl
theorem y1:(sF w os).heap.keysOk (looseW aaL free) ((recsOf aaL).map (·.name)) ((litsOf aaL).map (·.1)) ((clssOf aaL (looseW aaL free)).map (·.name))=true:=by kernel_rfl
theorem y2:(sF w os).heap.accountedOkI (importedModules pw.main.body)=true:=by kernel_rfl
theorem y3:(sF w os).heap.isNs mainGlobals=true:=by kernel_rfl
theorem y4:(sF w os).heap.isNs builtinsNs=true:=by kernel_rfl
theorem y5:tablesOk aaL (sF w os).heap=true:=by kernel_rfl
theorem y6:XT (sF w os)=true:=by kernel_rfl
theorem y7:((sF w os).gens.size==0)=true:=by kernel_rfl
theorem z4:tabsOk aaL (sF w os)=true:=by kernel_rfl
theorem z5:pinSeenD aaL (drecsOf aaL) (sF w os)=pinGoodD (drecsOf aaL):=by kernel_rfl
theorem z6:plainSeenE aaL (looseW aaL free) (sF w os)=plainGoodE aaL (looseW aaL free):=by kernel_rfl
theorem z7:plainSeenD aaL free (sF w os)=plainGoodD aaL free:=by kernel_rfl
theorem z8:wideSeen aaL (sF w os)=wideGood aaL:=by kernel_rfl
theorem z9:clsSeenW aaL free (sF w os)=clsGoodW aaL free:=by kernel_rfl
theorem look:SE w os=openGood aaL free:=aKP (q:=aaL) (loose:=free) (mods:=importedModules pw.main.body) (Xt:=XT) (s:=sF w os) (z1 w os) (z2 w os) (y1 w os) (y2 w os) (y3 w os) (y4 w os) (y5 w os) (y6 w os) (y7 w os) (z4 w os) (z5 w os) (z6 w os) (z7 w os) (z8 w os) (z9 w os)
end
theorem lk0(w:World)(os:OsState):(staticsOk (importedModules pw.main.body) (boot_heap w.params) (hF w.params)&&namesBound pw (hF w.params)
  &&gensDone (sF w os)&&laidKept (boot_heap w.params) (hF w.params))=true:=by kernel_rfl
section
set_option Elab.async false
local macro_rules
  | `(tactic| o_head $H) => `(tactic| (have kk := $H; assumption))
theorem d0(h:PySem.Challenge.rw_fivefields_k53_never.row.Holds):PySem.Challenge.rw_fivefields_k53_never.row.Holds:=by
 w_on
 k_head
end
theorem kk(w:World)(os:OsState):((d0.heap_1 w.params).map fun p=>p.1).map (sF w os).heap.get? =(d0.heap_1 w.params).map fun p=>some p.2:=by
 iterate 3 (refine aL8 190 ?_ ?_;(· as_aux_lemma=>kernel_rfl))
 as_aux_lemma=>kernel_rfl
abbrev rR:OpenRow:=OpenLaw.row PySem.Challenge.rw_fivefields_k53_never
def as0:List Addr:=(d0.heap_1 {strHash:=fun _=>0,shareClass:=fun _=>0,mergeTok:=fun t=>t,idOf:=fun _=>0,idOfShared:=fun _ _=>0,followText:=fun _=>true,idOfImm:=fun _=>0}).map (·.1)
theorem awS(P:Params):as0=(d0.heap_1 P).map (·.1):=by kernel_rfl
theorem lft:LeftO rR.prog aaL free XT (kHook d0.heap_1 as0 awS).obs (kHook d0.heap_1 as0 awS).val 13226:=by
 refine LeftO.of_pieces opn siz run rfl ?_
 intro w
 funext os
 refine looks_pair (lk0 w os) (looks_pair (look w os) ?_)
 show as0.map (sF w os).heap.get? =(d0.heap_1 w.params).map fun p=>some p.2
 rw[awS w.params]
 exact kk w os
theorem dS:(defOf aaL rR.name).isSome=true:=by kernel_rfl
def dL:DefRec:=((defOf aaL rR.name).get dS).1
theorem h1:defOf aaL rR.name=some (dL,[]):=by kernel_rfl
theorem h2:rR.prog.theDef rR.name=some (dL.params,dL.body,dL.scope):=by kernel_rfl
theorem h3:kwWritten? dL.params.kwonlyargs dL.params.kw_defaults=some []:=by kernel_rfl
theorem h4:dL.params.defaults=[]:=by kernel_rfl
theorem h5:dL.name="law":=by kernel_rfl
theorem h6:(!rR.writes||rR.records.isEmpty)=true:=by kernel_rfl
theorem h7:(chainsOk aaL&&opensWell rR.prog&&(frees rR.toRowW&&rR.within.isEmpty))=true:=by decide +kernel
theorem h8:rR.prog.bare:=⟨rfl,rfl,rfl,rfl,rfl,by decide +kernel⟩
theorem lst(said:rR.wellSaid=true)(hw:rR.toRowW.promised)
  (hc:WalkO aaL free (XL aaL read) (kHook d0.heap_1 as0 awS).says rR.toRowW dL [] fun f vs=>PySem.call f vs):rR.Holds:=
 holds_open (q:=aaL) (loose:=free) (Xt:=XT) (XP:=XL aaL read) lft (kHook d0.heap_1 as0 awS).of (kHook d0.heap_1 as0 awS).keeps
  (fun z y=>xl_of z (Bool.and_eq_true_iff.mp y).1) XL.keeps h1 h2 h3 (fun z y=>recFacts_of (Bool.and_eq_true_iff.mp y).2) h6 said h7 h8 hw hc
theorem agF:((recsOf aaL).find? (fun e=>e.name==Str.ofString "next_from")).isSome=true:=by kernel_rfl
theorem ao3:(recsOf aaL).find? (fun e=>e.name==Str.ofString "next_from")=some (((recsOf aaL).find? (fun e=>e.name==Str.ofString "next_from")).get agF):=(Option.some_get agF).symm
theorem aoY(P:Params):tabIn (d0.heap_1 P) "next_from"=some (324,320):=by kernel_rfl
theorem aoZ(P:Params):(d0.heap_1 P).lookup 320=none:=by kernel_rfl
theorem ak5:((recsOf aaL).find? (fun e=>e.name==Str.ofString "last_to")).isSome=true:=by kernel_rfl
theorem atJ:(recsOf aaL).find? (fun e=>e.name==Str.ofString "last_to")=some (((recsOf aaL).find? (fun e=>e.name==Str.ofString "last_to")).get ak5):=(Option.some_get ak5).symm
theorem atX(P:Params):tabIn (d0.heap_1 P) "last_to"=some (331,327):=by kernel_rfl
theorem asV(P:Params):(d0.heap_1 P).lookup 327=none:=by kernel_rfl
theorem tb(w:World)(h:Heap)(mean:ExcName->Option Value)(mg mb:Str->Option Value)(X:(d0.heap_1 w.params).In h)(T:Top aaL (looseW aaL free) mean mg mb h):∀b∈[320,327],(isCodeTable h b/\h.get? b=some (tabObj #[]))/\(d0.heap_1 w.params).lookup b=none:=by
 intro b hb
 simp only[List.mem_cons,List.not_mem_nil,or_false] at hb
 rcases hb with rfl | rfl
 ·obtain⟨h1,h2⟩:=tab_of T X ao3 (aoY w.params)
  exact⟨⟨(h1.tab h2).isCodeTable,h2⟩,aoZ w.params⟩
 ·obtain⟨h1,h2⟩:=tab_of T X atJ (atX w.params)
  exact⟨⟨(h1.tab h2).isCodeTable,h2⟩,asV w.params⟩
theorem bi4(P:Params):nsIn (d0.heap_1 P) mainGlobals "__builtins__"=some (some (.ref 4)):=by kernel_rfl
theorem bl4(P:Params):(d0.heap_1 P).lookup 4=none:=by kernel_rfl
theorem tbm(w:World)(h:Heap)(mg:Str->Option Value)(X:(d0.heap_1 w.params).In h)(G:h.Ns mainGlobals mg):mg "__builtins__"=some (.ref 4)/\(d0.heap_1 w.params).lookup 4=none:=⟨mg_of X G (bi4 w.params),bl4 w.params⟩
end
end
end Hd
set_option Elab.async false
set_option linter.all false
set_option maxRecDepth 100000
namespace L2
open PySem PySem.Spec PyProof.Rows
abbrev FG:=PySem.W.Frag
abbrev dR:=@wpAny_passesOwn
abbrev dU:=@wpAny_newObj_type
abbrev dW:=@wpAny_bind
abbrev dX:=@wpAny_mono
abbrev dY:=@wpAny_setState_of
abbrev dZ:=@sizeLine_eq
abbrev d5:=@wpAny_holding
abbrev d6:=@codeAny_mono
abbrev eA:=@of_decide_eq_true
abbrev eC:=@decide_eq_true
abbrev eE:=@decide_eq_true_eq
abbrev eF:=@decide_eq_false
abbrev eG:=@wpAny_Call_Name_kw
abbrev eJ:=@wpAny_pure
abbrev eK:=@wpAny_truthy_bool
abbrev aS:=@Nat.le_refl
abbrev aU:=@List.length_map
abbrev aV:=@Heap.lt_size
abbrev aW:=@Heap.get?_push_of_some
abbrev aX:=@Nat.ne_of_lt
abbrev aY:=@List.mem_cons
abbrev aZ:=@Int.le_refl
abbrev a8:=@Option.some.inj
abbrev a9:=@Nat.lt_of_lt_of_le
abbrev bA:=@List.getElem?_map
abbrev bB:=@Bool.false_ne_true
abbrev bC:=@List.length_append
abbrev bD:=@Heap.get?_push_size
abbrev bE:=@List.mem_singleton
abbrev bF:=@Bool.and_eq_true
abbrev bG:=@List.map_cons
abbrev bH:=@List.map_append
abbrev bI:=@List.mem_of_getElem?
abbrev bJ:=@List.size_toArray
abbrev bK:=@Nat.zero_le
abbrev bL:=@List.mem_map
abbrev bM:=@List.mem_cons_of_mem
abbrev bN:=@List.any_cons
abbrev bO:=@Nat.le_trans
abbrev bP:=@List.mem_cons_self
abbrev bQ:=@Int.toNat_natCast
abbrev bR:=@Int.le_of_lt
abbrev bS:=@List.getElem?_eq_getElem
abbrev bU:=@Int.toNat_of_nonneg
abbrev bV:=@List.mem_append
abbrev bW:=@Array.length_toList
abbrev bX:=@List.length_cons
abbrev bY:=@List.mem_append_right
abbrev bZ:=@List.all_eq_true
abbrev b7:=@List.take_succ
abbrev b8:=@Nat.lt_irrefl
abbrev b9:=@Heap.get?_update_other
abbrev cA:=@List.not_mem_nil
abbrev cB:=@List.getElem?_eq_some_iff
abbrev cC:=@Int.eq_ofNat_of_zero_le
abbrev cD:=@Array.getElem?_toList
abbrev cE:=@List.length_range
abbrev cF:=@List.take_length
abbrev cG:=@Bool.eq_iff_iff
abbrev cH:=@Heap.size_push
abbrev cI:=@List.append_nil
abbrev cJ:=@Heap.get?_update_self
abbrev cL:=@List.length_singleton
abbrev cM:=@Nat.lt_succ_of_lt
abbrev cN:=@Int.emod_nonneg
abbrev cQ:=@List.map_map
abbrev cR:=@Array.getElem?_eq_getElem
abbrev cS:=@Bool.and_false
abbrev cT:=@List.mem_range
abbrev cU:=@Nat.not_lt_zero
abbrev cV:=@Nat.lt_or_ge
abbrev cW:=@Bool.false_and
abbrev cX:=@List.any_eq_false
abbrev cY:=@Nat.lt_succ_self
abbrev cZ:=@Bool.true_and
abbrev c5:=@List.cons_ne_nil
abbrev c6:=@Int.le_trans
abbrev c7:=@Int.emod_lt_of_pos
abbrev c8:=@Bool.false_or
abbrev c9:=@List.filterMap_cons
abbrev dA:=@Int.natCast_nonneg
abbrev dB:=@Option.isSome_iff_exists
abbrev dC:=@List.length_take
abbrev dD:=@List.length_replicate
abbrev dE:=@List.lookup_cons
abbrev dF:=@Option.map_some
abbrev dG:=@Int.ediv_nonneg
abbrev dH:=@List.find?_cons
abbrev dI:=@Nat.lt_of_le_of_lt
abbrev dJ:=@List.getElem?_eq_none
abbrev dM:=@List.filterMap_append
abbrev dN:=@Nat.le_of_ble_eq_true
abbrev dO:=@List.take_of_length_le
abbrev dP:=@List.getD_eq_getElem?_getD
abbrev dQ:=@Array.getElem?_eq_none
noncomputable abbrev Key:=Sum Int Str
noncomputable def am3:Key->Value->Bool
 |.inl k,v=>Value.isInt k v
 |.inr x,v=>Value.isStrOf x v
noncomputable def keyH(w:World):Key->Int
 |.inl k=>hashInt k
 |.inr x=>hashStr w x
theorem aa8:∀{k:Key} {v:Value},am3 k v=true->(∃i t,k=Sum.inl i/\v=Value.int i t)∨(∃x t,k=Sum.inr x/\v=Value.str x t)
 |.inl i,v,h=>by
  obtain⟨t,e⟩:=Value.isInt_shape (k:=i) (v:=v) h
  exact .inl ⟨i,t,rfl,e⟩
 |.inr x,v,h=>by
  obtain⟨t,e⟩:=Value.isStrOf_shape (x:=x) (v:=v) h
  exact .inr ⟨x,t,rfl,e⟩
theorem aw0(i:Int)(t:Tok):am3 (.inl i) (.int i t)=true:=by simp[am3,Value.isInt]
theorem axJ(x:Str)(t:Tok):am3 (.inr x) (.str x t)=true:=by simp[am3,Value.isStrOf]
theorem aEO(a b:Int):decide ((Sum.inl a:Key)=Sum.inl b)=(a==b):=by
 by_cases e:a=b
 ·subst e;simp
 ·have h:¬(Sum.inl a:Key)=Sum.inl b:=fun q=>e (Sum.inl.inj q)
  rw[eF h]
  exact (beq_eq_false_iff_ne.mpr e).symm
theorem aFC(a b:Str):decide ((Sum.inr a:Key)=Sum.inr b)=decide (a=b):=by
 by_cases e:a=b
 ·subst e;simp
 ·have h:¬(Sum.inr a:Key)=Sum.inr b:=fun q=>e (Sum.inr.inj q)
  rw[eF h,eF e]
theorem aFN(a:Int)(b:Str):decide ((Sum.inl a:Key)=Sum.inr b)=false:=eF (fun q=>nomatch q)
theorem aFK(a:Str)(b:Int):decide ((Sum.inr a:Key)=Sum.inl b)=false:=eF (fun q=>nomatch q)
noncomputable def abB(prog:Program)(w:World):PySem.KeyKind prog w Key where
 is:=am3
 hash:=keyH w
 inj:=fun v a b ha hb=>by
  rcases aa8 ha with ⟨i,t,rfl,rfl⟩ | ⟨x,t,rfl,rfl⟩
  ·rcases aa8 hb with ⟨j,u,rfl,e⟩ | ⟨y,u,rfl,e⟩
   ·injection e with e1 _;rw[e1]
   ·exact nomatch e
  ·rcases aa8 hb with ⟨j,u,rfl,e⟩ | ⟨y,u,rfl,e⟩
   ·exact nomatch e
   ·injection e with e1 _;rw[e1]
 byValue:=fun k v h=>by
  rcases aa8 h with ⟨i,t,rfl,rfl⟩ | ⟨x,t,rfl,rfl⟩<;>rfl
 pyHash:=fun hv h=>by
  rcases aa8 hv with ⟨i,t,rfl,rfl⟩ | ⟨x,t,rfl,rfl⟩
  ·exact wpAny_pyHash_int h
  ·exact wpAny_pyHash_str h
 eqBool:=fun hu hv h=>by
  rcases aa8 hu with ⟨i,t,rfl,rfl⟩ | ⟨x,t,rfl,rfl⟩
  ·rcases aa8 hv with ⟨j,u,rfl,rfl⟩ | ⟨y,u,rfl,rfl⟩
   ·rw[aEO] at h;exact wpAny_eqBool_int h
   ·rw[aFN] at h;exact SeqAt.EqAt.int_str i t y u _ _ _ _ h
  ·rcases aa8 hv with ⟨j,u,rfl,rfl⟩ | ⟨y,u,rfl,rfl⟩
   ·rw[aFK] at h;exact SeqAt.EqAt.str_int x t j u _ _ _ _ h
   ·rw[aFC] at h;exact wpAny_eqBool_str h
 «strs»:=fun k x t v h=>by
  rcases aa8 h with ⟨i,u,rfl,e⟩ | ⟨y,u,rfl,e⟩
  ·exact nomatch e
  ·injection e with e1 _
   subst e1
   cases v<;>rfl
theorem arN(prog:Program)(w:World)(i:Int)(t:Tok):(abB prog w).is (.inl i) (.int i t)=true:=aw0 i t
theorem aqN(prog:Program)(w:World)(x:Str)(t:Tok):(abB prog w).is (.inr x) (.str x t)=true:=axJ x t
inductive V where
 |non | bl (b:Bool) | int (i:Int) | str (x:Str) | byt (b:Array UInt8) | flt (b:UInt64) | ref (a:Addr) | ty (n:String)
 deriving DecidableEq
noncomputable def RelV:V->Value->Prop
 |.non,u=>u=Value.none
 |.bl b,u=>u=Value.bool b
 |.int i,u=>∃t,u=Value.int i t
 |.str x,u=>∃t,u=Value.str x t
 |.byt b,u=>∃t,u=Value.bytes b t
 |.flt b,u=>∃t,u=Value.float b t
 |.ref a,u=>u=Value.ref a
 |.ty n,u=>u=Value.type n
noncomputable abbrev Vals:List V->List Value->Prop:=Paired RelV
theorem Vals.length{xs:List V}{us:List Value}(r:Vals xs us):xs.length=us.length:=Paired.length r
theorem Vals.get:∀{xs:List V} {us:List Value} {i:Nat} {x:V},Vals xs us->xs[i]? =some x->∃u,us[i]? =some u/\RelV x u
 |_,_,_,_,.nil,e=>by simp at e
 |_,_,0,_,.cons r _,e=>by simp at e;subst e;exact⟨_,rfl,r⟩
 |_,_,i+1,x,.cons _ t,e=>by
  obtain⟨u,h1,h2⟩:=Vals.get (i:=i) (x:=x) t (by simpa using e)
  exact⟨u,by simpa using h1,h2⟩
theorem Vals.set{x:V}{u:Value}(r:RelV x u):∀{xs:List V} {us:List Value} (i:Nat),Vals xs us->Vals (xs.set i x) (us.set i u)
 |_,_,_,.nil=>.nil
 |_,_,0,.cons _ t=>.cons r t
 |_,_,i+1,.cons q t=>.cons q (Vals.set r i t)
theorem Vals.append:∀{xs ys:List V} {us ws:List Value},Vals xs us->Vals ys ws->Vals (xs++ys) (us++ws)
 |_,_,_,_,.nil,s=>s
 |_,_,_,_,.cons r t,s=>.cons r (Vals.append t s)
theorem Vals.take:∀{xs:List V} {us:List Value} (n:Nat),Vals xs us->Vals (xs.take n) (us.take n)
 |_,_,0,_=>.nil
 |_,_,_+1,.nil=>.nil
 |_,_,n+1,.cons r t=>.cons r (Vals.take n t)
theorem Vals.drop:∀{xs:List V} {us:List Value} (n:Nat),Vals xs us->Vals (xs.drop n) (us.drop n)
 |_,_,0,r=>r
 |_,_,_+1,.nil=>.nil
 |_,_,n+1,.cons _ t=>Vals.drop n t
noncomputable def RelO:Option V->Option Value->Prop
 |some v,some u=>RelV v u
 |none,none=>True
 |_,_=>False
noncomputable def KV{κ:Type}:List (κ×V)->List (κ×Value)->Prop:=Paired fun (p:κ×V) (q:κ×Value)=>p.1=q.1/\RelV p.2 q.2
noncomputable def kV:Key->V
 |.inl i=>.int i
 |.inr x=>.str x
inductive HO where
 |lst (xs:List V)
 |tup (xs:List V)
 |dK (kvs:List (Key×V)) | dT (kvs:List (List Key×V))
 |set (S:Int->Bool) (n:Nat)
 |ins (C dx:Addr) (fs:List (Str×V))
 |own (x:Addr)
 |xd (fs:List (Str×V))
 |met (f x:Addr)
 |rng (lo hi:Int)
 |frz (o:Obj) (u:HO)
 |tbl (ps:Array Value)
 |ext (φ:Heap->Prop)
noncomputable abbrev Hp:=Addr->Option HO
noncomputable def upd(H:Hp)(a:Addr)(o:HO):Hp:=fun b=>if b=a then some o else H b
theorem aaA{H:Hp}{a:Addr}{o:HO}:upd H a o a=some o:=by unfold upd;rw[if_pos rfl]
theorem aaF{H:Hp}{a b:Addr}{o:HO}(h:b≠a):upd H a o b=H b:=by unfold upd;rw[if_neg h]
theorem aHT{H:Hp}{a b:Addr}{o u:HO}(h:H a=some o)(h':H b=some u)(d:o≠u):a≠b:=by
 intro e;subst e;rw[h] at h';exact d (a8 h')
theorem aaG{H:Hp}{a b:Addr}{o:HO}(h:H a=some o)(h':H b=none):a≠b:=by
 intro e;subst e;rw[h] at h';cases h'
section
variable(P:Program)(w:World)
noncomputable def ObjOk(H:Hp)(h:Heap)(a:Addr):HO->Prop
 |.lst xs=>xs.length<=sizeLine/\∃(its:List Value) (n:Nat),Vals xs its/\h.get? a=some {cls:=.type "list",data:=.seq its.toArray n}
 |.tup xs=>xs.length<=sizeLine/\∃its:List Value,Vals xs its/\IsTup h a its.toArray
 |.dK kvs=>kvs.length<=sizeLine/\(a==sysModules)=false/\∃vs,KV kvs vs/\h.DictOf (abB P w) a vs
 |.dT kvs=>kvs.length<=sizeLine/\(a==sysModules)=false/\∃xs:List (List Key×Addr×Value),
   Paired (fun (p:List Key×V) (q:List Key×Addr×Value)=>p.1=q.1/\H q.2.1=some (.tup (p.1.map kV))/\RelV p.2 q.2.2) kvs xs/\
   ∃o es ep,h.get? a=some o/\o.ExactDict/\o.data=.dict es ep/\es.toList=xs.map (entryOfKey (tupleKind (abB P w)))/\(xs.map (·.1)).Nodup
 |.set S n=>h.SetOf (intKind P w) a S n
 |.ins C dx fs=>H dx=some (.own a)/\fs.length<=1000/\dx≠a/\h.get? a=some (PySem.W.instObj C dx)/\
   ∃mA,h.Ns1 dx mA/\(∀f,RelO (fs.lookup f) (mA f))/\PySem.Within mA (fs.map (·.1))
 |.own _=>∃o,h.get? a=some o
 |.xd fs=>∃mA,h.Ns1 a mA/\∀f,RelO (fs.lookup f) (mA f)
 |.rng lo hi=>∃t u v,h.get? a=some {cls:=.type "range",data:=.fields #[.int lo t,.int hi u,.int 1 v]}
 |.frz o u=>h.get? a=some o/\ObjOk H h a u
 |.tbl ps=>h.get? a=some {cls:=.none,data:=.fields ps}
 |.met f x=>h.get? a=some (PySem.W.methodObj (.ref f) (.ref x))
 |.ext φ=>φ h/\(∃o,h.get? a=some o)/\∀h1 h2:Heap,φ h1->(∀o,h1.get? a=some o->h2.get? a=some o)->φ h2
noncomputable def HOk(H:Hp)(h:Heap):Prop:=∀a o,H a=some o->ObjOk P w H h a o
end
section
variable{P:Program}{w:World}{H H':Hp}{h h':Heap}{a:Addr}{o:HO}
theorem ObjOk.lt(x:ObjOk P w H h a o):a<h.objs.size:=by
 cases o with
 |lst xs=>obtain⟨_,_,_,_,e⟩:=x;exact aV e
 |tup xs=>obtain⟨_,_,_,p⟩:=x;exact p.lt
 |dK kvs=>obtain⟨_,_,_,_,o,_,_,e,_⟩:=x;exact aV e
 |dT kvs=>obtain⟨_,_,_,_,o,_,_,e,_⟩:=x;exact aV e
 |set S n=>obtain⟨o,_,_,_,e,_⟩:=x;exact aV e
 |ins C dx fs=>obtain⟨_,_,_,e,_⟩:=x;exact aV e
 |own y=>obtain⟨_,e⟩:=x;exact aV e
 |xd fs=>obtain⟨_,⟨_,_,_,e,_⟩,_⟩:=x;exact aV e
 |rng lo hi=>obtain⟨_,_,_,e⟩:=x;exact aV e
 |frz ob u=>obtain⟨e,_⟩:=x;exact aV e
 |tbl ps=>exact aV (show h.get? a=some _ from x)
 |met f y=>exact aV (show h.get? a=some _ from x)
 |ext φ=>obtain⟨_,⟨_,e⟩,_⟩:=x;exact aV e
theorem Paired.mapP{α β:Type}{F G:α->β->Prop}:∀{l₁:List α} {l₂:List β},Paired F l₁ l₂->(∀a b,F a b->G a b)->Paired G l₁ l₂
 |_,_,.nil,_=>.nil
 |_,_,.cons r t,f=>.cons (f _ _ r) (Paired.mapP t f)
theorem Paired.imp'{α β:Type}{F G:α->β->Prop}(f:∀a b,F a b->G a b){l₁:List α}{l₂:List β}(r:Paired F l₁ l₂):Paired G l₁ l₂:=Paired.mapP r f
theorem ObjOk.stay(x:ObjOk P w H h a o)(k:∀b u,(b=a∨H b=some (.own a))->h.get? b=some u->h'.get? b=some u)
  (ho:∀b,H b=some (.own a)->H' b=some (.own a)) (ht:∀b xs,H b=some (.tup xs)->H' b=some (.tup xs)):ObjOk P w H' h' a o:=by
 induction o with
 |lst xs=>obtain⟨z,its,n,r,e⟩:=x;exact⟨z,its,n,r,k _ _ (.inl rfl) e⟩
 |tup xs=>obtain⟨z,its,r,ob,e,c⟩:=x;exact⟨z,its,r,ob,k _ _ (.inl rfl) e,c⟩
 |dK kvs=>obtain⟨z,y,vs,r,ob,es,ep,e,c⟩:=x;exact⟨z,y,vs,r,ob,es,ep,k _ _ (.inl rfl) e,c⟩
 |dT kvs=>
  obtain⟨z,y,xs,r,ob,es,ep,e,c⟩:=x
  exact⟨z,y,xs,Paired.mapP r fun p q z=>⟨z.1,ht _ _ z.2.1,z.2.2⟩,ob,es,ep,k _ _ (.inl rfl) e,c⟩
 |set S n=>obtain⟨ob,es,ep,t,e,c⟩:=x;exact⟨ob,es,ep,t,k _ _ (.inl rfl) e,c⟩
 |ins C dx fs=>
  obtain⟨d,z,ne,e,mA,⟨od,es,ep,e2,c⟩,r⟩:=x
  exact⟨ho _ d,z,ne,k _ _ (.inl rfl) e,mA,⟨od,es,ep,k _ _ (.inr d) e2,c⟩,r⟩
 |own y=>obtain⟨ob,e⟩:=x;exact⟨ob,k _ _ (.inl rfl) e⟩
 |xd fs=>obtain⟨mA,⟨od,es,ep,e,c⟩,r⟩:=x;exact⟨mA,⟨od,es,ep,k _ _ (.inl rfl) e,c⟩,r⟩
 |rng lo hi=>obtain⟨t,u,v,e⟩:=x;exact⟨t,u,v,k _ _ (.inl rfl) e⟩
 |frz ob u ih=>obtain⟨e,q⟩:=x;exact⟨k _ _ (.inl rfl) e,ih q⟩
 |tbl ps=>
  have e:h.get? a=some {cls:=.none,data:=.fields ps}:=x
  show h'.get? a=some {cls:=.none,data:=.fields ps}
  exact k a _ (.inl rfl) e
 |met f y=>
  have e:h.get? a=some (PySem.W.methodObj (.ref f) (.ref y)):=x
  show h'.get? a=some (PySem.W.methodObj (.ref f) (.ref y))
  exact k a _ (.inl rfl) e
 |ext φ=>obtain⟨p,⟨o,e⟩,st⟩:=x;exact⟨st _ _ p fun o q=>k _ _ (.inl rfl) q,⟨o,k _ _ (.inl rfl) e⟩,st⟩
theorem HOk.lt(x:HOk P w H h)(e:H a=some o):a<h.objs.size:=(x a o e).lt
theorem HOk.fresh(x:HOk P w H h)(e:h.objs.size<=a):H a=none:=by
 cases q:H a with
 |none=>rfl
 |some u=>exact absurd (a9 (x.lt q) e) (b8 _)
theorem HOk.kept(x:HOk P w H h)(k:∀b u,h.get? b=some u->h'.get? b=some u):HOk P w H h':=fun a o e=>
 (x a o e).stay (fun b u _ q=>k b u q) (fun _ q=>q) fun _ _ q=>q
theorem HOk.laid(x:HOk P w H h)(k:∀b u,h.get? b=some u->h'.get? b=some u)(hp:h.objs.size<=a)(new:ObjOk P w (upd H a o) h' a o):HOk P w (upd H a o) h':=fun b u e=>by
 have hn:=x.fresh hp
 by_cases hb:b=a
 ·subst hb;rw[aaA] at e;cases e;exact new
 ·rw[aaF hb] at e
  exact (x b u e).stay (fun c v _ q=>k c v q) (fun c q=>by rw[aaF (aaG q hn)];exact q) fun c xs q=>by rw[aaF (aaG q hn)];exact q
end
noncomputable def Rd(H:Hp)(a:Addr)(u:HO):Prop:=H a=some u∨∃o,H a=some (.frz o u)
theorem Rd.ok{P:Program}{w:World}{H:Hp}{h:Heap}{a:Addr}{u:HO}(r:Rd H a u)(x:HOk P w H h):ObjOk P w H h a u:=by
 rcases r with r | ⟨o,r⟩
 ·exact x a u r
 ·obtain⟨_,q⟩:=x a _ r
  exact q
noncomputable def Mut:Option HO->Prop
 |some (.lst _)=>True
 |some (.dK _)=>True
 |some (.dT _)=>True
 |some (.set _ _)=>True
 |some (.ins _ _ _)=>True
 |some (.ext _)=>True
 |_=>False
section
variable{P:Program}{w:World}{H:Hp}{h h':Heap}{x e:Addr}{o':HO}
theorem HOk.write(ok:HOk P w H h)(mu:Mut (H x))(he:e=x∨H e=some (.own x))(k:∀b u,b≠e->h.get? b=some u->h'.get? b=some u)(heo:∃u,h'.get? e=some u)
  (new:ObjOk P w (upd H x o') h' x o'):HOk P w (upd H x o') h':=fun b u q=>by
 have nown:∀c y,H c=some (.own y)->c≠x:=fun c y r z=>by subst z;rw[r] at mu;exact mu
 have ntup:∀c xs,H c=some (.tup xs)->c≠x:=fun c xs r z=>by subst z;rw[r] at mu;exact mu
 by_cases hb:b=x
 ·subst hb;rw[aaA] at q;cases q;exact new
 ·rw[aaF hb] at q
  by_cases hbe:b=e
  ·have q':H b=some (.own x):=by
    rcases he with z | z
    ·exact absurd (hbe.trans z) hb
    ·rw[hbe];exact z
   rw[q] at q';cases q'
   obtain⟨v,hv⟩:=heo
   exact⟨v,by rw[hbe];exact hv⟩
  ·refine (ok b u q).stay (fun c v hc r=>k c v ?_ r) (fun c r=>by rw[aaF (nown c b r)];exact r) fun c xs r=>by rw[aaF (ntup c xs r)];exact r
   rcases hc with rfl | hc
   ·exact hbe
   ·rintro rfl
    rcases he with z | z
    ·exact nown c b hc z
    ·rw[hc] at z;cases z;exact hb rfl
end
structure Un(fs ex:List Addr)(H H':Hp)(h h':Heap):Prop where
 keep:∀b o,h.get? b=some o->H b=none->b∉fs->b∉ex->h'.get? b=some o
 slot:∀b o,h.get? b=some o->H b=none->b∈fs->b∉ex->∃sl,h'.get? b=some {o with slots:=sl}
 free:∀b o,h.get? b=some o->H b=none->b∉ex->H' b=none
 there:∀b o,h.get? b=some o->b∉ex->∃o',h'.get? b=some o'
 tups:∀b xs,H b=some (.tup xs)->H' b=some (.tup xs)
 frzs:∀b o u,H b=some (.frz o u)->H' b=some (.frz o u)
 tbls:∀b ps,H b=some (.tbl ps)->∃more,H' b=some (.tbl (ps++more))
section
variable{fs fs' ex ex':List Addr}{H H1 H2:Hp}{h h1 h2 h':Heap}{a x e:Addr}{o:HO}
theorem Un.any(u:Un fs ex H H1 h h1){b:Addr}{ob:Obj}(q:h.get? b=some ob)(n:H b=none)(hx:b∉ex):∃sl,h1.get? b=some {ob with slots:=sl}:=by
 by_cases hb:b∈fs
 ·exact u.slot b ob q n hb hx
 ·exact⟨ob.slots,u.keep b ob q n hb hx⟩
theorem Un.trans(a:Un fs ex H H1 h h1)(b:Un fs ex H1 H2 h1 h2):Un fs ex H H2 h h2 where
 keep:=fun c ob q n hc hx=>b.keep c ob (a.keep c ob q n hc hx) (a.free c ob q n hx) hc hx
 slot:=fun c ob q n hc hx=>by
  obtain⟨sl,e1⟩:=a.slot c ob q n hc hx
  obtain⟨sl',e2⟩:=b.slot c _ e1 (a.free c ob q n hx) hc hx
  exact⟨sl',e2⟩
 free:=fun c ob q n hx=>by
  obtain⟨o',e1⟩:=a.there c ob q hx
  exact b.free c o' e1 (a.free c ob q n hx) hx
 there:=fun c ob q hx=>by
  obtain⟨o',e1⟩:=a.there c ob q hx
  exact b.there c o' e1 hx
 tups:=fun c xs q=>b.tups c xs (a.tups c xs q)
 frzs:=fun c ob xs q=>b.frzs c ob xs (a.frzs c ob xs q)
 tbls:=fun c ps q=>by
  obtain⟨m1,e1⟩:=a.tbls c ps q
  obtain⟨m2,e2⟩:=b.tbls c _ e1
  exact⟨m1++m2,by rw[e2,Array.append_assoc]⟩
theorem Un.kept(k:∀b u,h.get? b=some u->h'.get? b=some u):Un fs ex H H h h':=
 ⟨fun b ob q _ _ _=>k b ob q,fun b ob q _ _ _=>⟨ob.slots,k b ob q⟩,fun _ _ _ n _=>n,fun b ob q _=>⟨ob,k b ob q⟩,fun _ _ q=>q,fun _ _ _ q=>q,fun _ ps q=>⟨#[],by rw[q];simp⟩⟩
theorem Un.refl:Un fs ex H H h h:=Un.kept fun _ _ q=>q
theorem Un.laid(k:∀b u,h.get? b=some u->h'.get? b=some u)(hp:h.objs.size<=a)(hn:H a=none):Un fs ex H (upd H a o) h h' where
 keep:=fun b u q _ _ _=>k b u q
 slot:=fun b u q _ _ _=>⟨u.slots,k b u q⟩
 free:=fun b u q n _=>by rw[aaF (aX (a9 (aV q) hp))];exact n
 there:=fun b u q _=>⟨u,k b u q⟩
 tups:=fun b xs q=>by rw[aaF (aaG q hn)];exact q
 frzs:=fun b u xs q=>by rw[aaF (aaG q hn)];exact q
 tbls:=fun b ps q=>⟨#[],by rw[aaF (aaG q hn),q];simp⟩
theorem Un.write(mu:Mut (H x))(he:e=x∨H e=some (.own x))(k:∀b u,b≠e->h.get? b=some u->h'.get? b=some u)(heo:∃u,h'.get? e=some u):Un fs ex H (upd H x o) h h':=by
 have hx:∀b,H b=none->b≠x:=fun b n z=>by subst z;rw[n] at mu;exact mu
 have hb:∀b,H b=none->b≠e:=fun b n z=>by
  subst z
  rcases he with r | r
  ·exact hx b n r
  ·rw[n] at r;cases r
 have hm:∀b u,H b=some u->¬Mut (some u)->b≠x:=fun b u q nm z=>by subst z;rw[q] at mu;exact nm mu
 refine⟨fun b u q n _ _=>k b u (hb b n) q,fun b u q n _ _=>⟨u.slots,k b u (hb b n) q⟩,fun b u q n _=>by rw[aaF (hx b n)];exact n,fun b u q _=>?_,
  fun b xs q=>by rw[aaF (hm b _ q fun z=>z)];exact q,fun b u xs q=>by rw[aaF (hm b _ q fun z=>z)];exact q,fun b ps q=>⟨#[],by rw[aaF (hm b _ q fun z=>z),q];simp⟩⟩
 by_cases hbe:b=e
 ·subst hbe;exact heo
 ·exact⟨u,k b u hbe q⟩
end
noncomputable def trk(h:Heap)(H:Hp):List Addr:=(List.range h.objs.size).filter fun a=>(H a).isSome
noncomputable def anQ(h:Heap)(H:Hp):Heap:=PySem.W.hideAll h (trk h H)
theorem aw3(h:Heap)(H:Hp):(anQ h H).objs.size=h.objs.size:=PySem.W.hideAll_size _ _
theorem azS{h:Heap}{H:Hp}{b:Addr}{o:Obj}(e:h.get? b=some o)(n:H b=none):(anQ h H).get? b=some o:=
 PySem.W.hideAll_get _ e fun hm=>by
  have q:(H b).isSome=true:=(List.mem_filter.mp hm).2
  rw[n] at q;simp at q
theorem aBC{h:Heap}{H:Hp}{b:Addr}{o:Obj}(e:(anQ h H).get? b=some o):h.get? b=some o/\H b=none:=by
 have e':h.get? b=some o:=PySem.W.of_hideAll (trk h H) e
 refine⟨e',?_⟩
 cases q:H b with
 |none=>rfl
 |some x=>
  have hm:b∈trk h H:=List.mem_filter.mpr ⟨cT.mpr (aV e'),by simp[q]⟩
  have z:(anQ h H).get? b=none:=PySem.W.hideAll_none (trk h H) hm
  rw[z] at e;cases e
structure Mod(K:FG)(mg:Str->Option Value)(base:Heap):Prop where
 kin:K.In base
 glob:base.Ns mainGlobals mg
 blt:∃mb,base.Ns builtinsNs mb/\∀x:Str,x≠"__name__"->mb x=bootBuiltins x
 nolimit:base.NoLimit
structure Cx where
 prog:Program
 w:World
 K:FG
 mg:Str->Option Value
 base:Heap
 A:Around
 N:List Str
 s₀:Shared
 H₀:Hp
 env:Env
 outer:List Env
 stack:List Env
 ex:List Addr
 fn:Str->Bool
 calm:Bool
 pn:List (Addr×Obj)
 xe:Value->Shared->Prop
noncomputable def frs(l:List Env):List Addr:=l.filterMap (·.frame)
noncomputable abbrev Cx.fs(X:Cx):List Addr:=frs X.outer
noncomputable def Vis(sc:Scope)(x:Str):Prop:=sc.names.lookup x=some .local∨sc.names.lookup x=some .cell∨sc.names.lookup x=some .free
noncomputable def Loc(sc:Scope)(x:Str):Prop:=sc.names.lookup x=some .local∨sc.names.lookup x=some .cell
noncomputable def Look(env:Env)(h:Heap)(m:Str->Option Value)(x:Str)(u:Value):Prop:=
 (env.kindOf x=some .local/\m x=some u)∨((env.kindOf x=some .cell∨env.kindOf x=some .free)/\∃c,env.cells.lookup x=some c/\h.IsCell c (some u))
structure Cx.Ok(X:Cx):Prop where
 mod:Mod X.K X.mg X.base
 kind:X.env.scope.kind=.function
 glob:X.env.globals=mainGlobals
 blt:X.env.builtins=builtinsNs
 above:X.s₀.heap.objs.size<=X.env.locals
 inj:∀x y c,X.env.cells.lookup x=some c->X.env.cells.lookup y=some c->x=y
 has:∀x,(X.env.kindOf x=some .cell∨X.env.kindOf x=some .free)->∃c,X.env.cells.lookup x=some c
 cab:∀x c,X.fn x=true->X.env.cells.lookup x=some c->X.s₀.heap.objs.size<=c
 hd:X.calm=true->X.A.handled=none
 frames:X.A.frames=some X.stack
 stk:X.stack=X.outer∨(X.stack=X.env::X.outer/\X.env.frame=some X.env.locals)
 exf:∀b∈X.ex,b≠X.env.locals/\∀x c,X.env.cells.lookup x=some c->c≠b
 bs:∀b o,X.base.get? b=some o->X.s₀.heap.get? b=some o/\X.H₀ b=none
 bsz:X.base.objs.size<=X.s₀.heap.objs.size
 noex:∀b o,X.base.get? b=some o->b∉X.ex
 exfs:∀b∈X.ex,b∉X.fs
 funs:X.s₀.heap.FunFrames X.base X.outer
 frf:∀b∈X.fs,X.H₀ b=none
structure Inv(X:Cx)(pins:List (Addr×Obj))(σ:List (Option V))(H:Hp)(s:Shared):Prop where
 ok:X.Ok
 os:s.os=X.s₀.os
 bare:AllBare s.gens
 base:Un X.fs X.ex X.H₀ H X.s₀.heap s.heap
 loc:∃m,s.heap.Ns X.env.locals m/\∀(i:Nat) (x:Str) (v:V),X.N[i]? =some x->σ[i]? =some (some v)->Vis X.env.scope x->∃u,RelV v u/\Look X.env s.heap m x u
 cell:∀x c,X.env.cells.lookup x=some c->∃v,s.heap.IsCell c v
 free:H X.env.locals=none
 freeC:∀x c,X.env.cells.lookup x=some c->H c=none
 pin:∀p∈X.pn++pins,s.heap.get? p.1=some p.2/\H p.1=none/\p.1≠X.env.locals/\p.1∉X.fs/\∀v,p.2.data≠ .cell v
 hok:HOk X.prog X.w H s.heap
 len:σ.length=X.N.length
section
variable{X:Cx}{pins:List (Addr×Obj)}{σ:List (Option V)}{H H':Hp}{s:Shared}{h':Heap}
theorem Cx.Ok.nofr(ok:X.Ok){b:Addr}{o:Obj}(e:X.base.get? b=some o):b∉X.fs:=fun hb=>by
 have:=(ok.funs.mem hb).1
 rw[e] at this;cases this
theorem Inv.bs(I:Inv X pins σ H s):∀b o,X.base.get? b=some o->s.heap.get? b=some o/\H b=none:=fun b o e=>
 ⟨I.base.keep b o (I.ok.bs b o e).1 (I.ok.bs b o e).2 (I.ok.nofr e) (I.ok.noex b o e),I.base.free b o (I.ok.bs b o e).1 (I.ok.bs b o e).2 (I.ok.noex b o e)⟩
theorem Inv.bk(I:Inv X pins σ H s):∀b o,X.base.get? b=some o->s.heap.get? b=some o:=fun b o e=>(I.bs b o e).1
theorem Inv.mod(I:Inv X pins σ H s):Mod X.K X.mg X.base:=I.ok.mod
theorem Inv.kIn(I:Inv X pins σ H s):X.K.In s.heap:=I.ok.mod.kin.keeps I.bk
theorem Inv.nolimit(I:Inv X pins σ H s):s.heap.NoLimit:=I.ok.mod.nolimit.keeps I.bk
theorem Inv.lt(I:Inv X pins σ H s):X.env.locals<s.heap.objs.size:=let ⟨_,hn,_⟩:=I.loc;hn.lt
theorem Inv.sz(I:Inv X pins σ H s):X.s₀.heap.objs.size<=s.heap.objs.size:=bO I.ok.above (Nat.le_of_lt I.lt)
theorem Inv.nofs(I:Inv X pins σ H s){a:Addr}(h:s.heap.objs.size<=a):a∉X.fs:=fun hb=>by
 obtain⟨_,o,ho,_⟩:=I.ok.funs.mem hb
 exact absurd (a9 (aV ho) (bO I.sz h)) (b8 _)
theorem Inv.cne(I:Inv X pins σ H s):∀x c,X.env.cells.lookup x=some c->c≠X.env.locals:=fun x c e z=>by
 obtain⟨v,o,ho,hd⟩:=I.cell x c e
 obtain⟨m,⟨o',es,ep,ho',hd',_⟩,_⟩:=I.loc
 rw[z,ho'] at ho;cases ho;rw[hd'] at hd;cases hd
theorem Inv.funs(I:Inv X pins σ H s):s.heap.FunFrames X.base X.outer:=by
 have all:∀(l:List Env),(∀b∈frs l,b∈X.fs)->X.s₀.heap.FunFrames X.base l->s.heap.FunFrames X.base l:=by
  intro l
  induction l with
  |nil=>intro _ _;trivial
  |cons env r ih=>
   intro hs hl
   obtain⟨hk,⟨L,o,hf,hn,ho,hd⟩,hr⟩:=hl
   have hL:L∈X.fs:=hs L (by unfold frs;rw[c9,hf];exact bP)
   obtain⟨sl,e⟩:=I.base.slot L o ho (I.ok.frf L hL) hL fun z=>I.ok.exfs L z hL
   exact⟨hk,⟨L,_,hf,hn,e,hd⟩,ih (fun b hb=>hs b (by unfold frs;rw[c9,hf];exact bM _ hb)) hr⟩
 exact all X.outer (fun _ hb=>hb) I.ok.funs
theorem Inv.stack(I:Inv X pins σ H s):s.heap.FunFrames X.base X.stack:=by
 rcases I.ok.stk with e | ⟨e,hf⟩
 ·rw[e];exact I.funs
 ·rw[e]
  obtain⟨m,hn,_⟩:=I.loc
  refine .cons (by rw[I.ok.kind];decide) hf hn ?_ I.funs
  exact Heap.get?_none_of_le (bO I.ok.bsz I.ok.above)
theorem Inv.stkSub(I:Inv X pins σ H s):∀b∈frs X.stack,b∈X.env.locals::X.fs:=fun b hb=>by
 rcases I.ok.stk with e | ⟨e,hf⟩
 ·rw[e] at hb;exact bM _ hb
 ·rw[e] at hb
  unfold frs at hb
  rw[c9,hf] at hb
  exact hb
theorem Inv.stkFree(I:Inv X pins σ H s):∀b∈frs X.stack,H b=none:=fun b hb=>by
 rcases aY.mp (I.stkSub b hb) with e | hb
 ·rw[e];exact I.free
 ·obtain⟨_,o,ho,_⟩:=I.ok.funs.mem hb
  exact I.base.free b o ho (I.ok.frf b hb) fun z=>I.ok.exfs b z hb
theorem Inv.step{g':Array GenState}{t':Nat}{d':Drawn}{ch:List Addr}(I:Inv X pins σ H s)
  (hch:∀b∈ch,(b∈X.ex∨X.s₀.heap.objs.size<=b)/\b≠X.env.locals/\(∀x c,X.env.cells.lookup x=some c->c≠b)/\∀p∈X.pn++pins,p.1≠b)
  (keep:∀b o,b≠X.env.locals->b∉X.fs->b∉ch->s.heap.get? b=some o->H b=none->h'.get? b=some o)
  (slot:∀b o,b≠X.env.locals->b∈X.fs->b∉ch->s.heap.get? b=some o->H b=none->∃sl,h'.get? b=some {o with slots:=sl}) (free:∀b o,b∉ch->s.heap.get? b=some o->H b=none->H' b=none)
  (there:∀b o,b∉ch->s.heap.get? b=some o->∃o',h'.get? b=some o')
  (tups:∀b xs,H b=some (.tup xs)->H' b=some (.tup xs)) (frzs:∀b o u,H b=some (.frz o u)->H' b=some (.frz o u)) (tbls:∀b ps,H b=some (.tbl ps)->∃more,H' b=some (.tbl (ps++more)))
  (ns:∀m,s.heap.Ns X.env.locals m->h'.Ns X.env.locals m) (hok:HOk X.prog X.w H' h') (hg:AllBare g'):
  Inv X pins σ H' {s with heap:=h',gens:=g',drawn:=d',toks:=t'}:=by
 have neL:∀b o,X.s₀.heap.get? b=some o->b≠X.env.locals:=fun b o e=>aX (a9 (aV e) I.ok.above)
 have neC:∀b o,X.s₀.heap.get? b=some o->b∉X.ex->b∉ch:=fun b o e hx hb=>by
  rcases (hch b hb).1 with z | z
  ·exact hx z
  ·exact absurd (a9 (aV e) z) (b8 _)
 have cellK:∀x c,X.env.cells.lookup x=some c->∀v,s.heap.IsCell c v->h'.IsCell c v:=fun x c e v ⟨o,ho,hd⟩=>by
  have nch:c∉ch:=fun z=>(hch c z).2.2.1 x c e rfl
  by_cases hc:c∈X.fs
  ·obtain⟨sl,q⟩:=slot c o (I.cne x c e) hc nch ho (I.freeC x c e)
   exact⟨_,q,hd⟩
  ·exact⟨o,keep c o (I.cne x c e) hc nch ho (I.freeC x c e),hd⟩
 refine⟨I.ok,I.os,hg,⟨fun b o e n hb hx=>?_,fun b o e n hb hx=>?_,fun b o e n hx=>?_,fun b o e hx=>?_,fun b xs e=>tups b xs (I.base.tups b xs e),fun b o xs e=>frzs b o xs (I.base.frzs b o xs e),fun b ps e=>?_⟩,?_,fun x c e=>?_,?_,fun x c e=>?_,fun p hp=>?_,hok,I.len⟩
 ·exact keep b o (neL b o e) hb (neC b o e hx) (I.base.keep b o e n hb hx) (I.base.free b o e n hx)
 ·obtain⟨sl,e1⟩:=I.base.slot b o e n hb hx
  obtain⟨sl',e2⟩:=slot b _ (neL b o e) hb (neC b o e hx) e1 (I.base.free b o e n hx)
  exact⟨sl',e2⟩
 ·obtain⟨o',e1⟩:=I.base.there b o e hx
  exact free b o' (neC b o e hx) e1 (I.base.free b o e n hx)
 ·obtain⟨o',e1⟩:=I.base.there b o e hx
  exact there b o' (neC b o e hx) e1
 ·obtain⟨m1,e1⟩:=I.base.tbls b ps e
  obtain⟨m2,e2⟩:=tbls b _ e1
  exact⟨m1++m2,by rw[e2,Array.append_assoc]⟩
 ·obtain⟨m,hn,hl⟩:=I.loc
  refine⟨m,ns m hn,fun i x v e1 e2 e3=>?_⟩
  obtain⟨u,r,l⟩:=hl i x v e1 e2 e3
  refine⟨u,r,?_⟩
  rcases l with l | ⟨k,c,e,z⟩
  ·exact .inl l
  ·exact .inr ⟨k,c,e,cellK x c e _ z⟩
 ·obtain⟨v,z⟩:=I.cell x c e
  exact⟨v,cellK x c e v z⟩
 ·obtain⟨m,⟨o,_,_,ho,_⟩,_⟩:=I.loc
  exact free _ o (fun z=>(hch _ z).2.1 rfl) ho I.free
 ·obtain⟨v,o,ho,hd⟩:=I.cell x c e
  exact free c o (fun z=>(hch c z).2.2.1 x c e rfl) ho (I.freeC x c e)
 ·obtain⟨e,n,ne,nf,d⟩:=I.pin p hp
  have nch:p.1∉ch:=fun z=>(hch p.1 z).2.2.2 p hp rfl
  exact⟨keep p.1 p.2 ne nf nch e n,free p.1 p.2 nch e n,ne,nf,d⟩
theorem Inv.un{t':Nat}(I:Inv X pins σ H s)(u:Un X.fs [] H H' s.heap h')(hok:HOk X.prog X.w H' h'):Inv X pins σ H' {s with heap:=h',toks:=t'}:=by
 obtain⟨m,⟨o,es,ep,ho,r⟩,_⟩:=id I.loc
 obtain⟨sl,hL⟩:=u.any ho I.free (by simp)
 exact I.step (g':=s.gens) (d':=s.drawn) (ch:=[]) (fun _ z=>nomatch z) (fun b o _ hb _ e n=>u.keep b o e n hb (by simp)) (fun b o _ hb _ e n=>u.slot b o e n hb (by simp)) (fun b o _ e n=>u.free b o e n (by simp)) (fun b o _ e=>u.there b o e (by simp)) u.tups u.frzs u.tbls (fun m' hm=>by
  obtain⟨o',es',ep',ho',r'⟩:=hm
  rw[ho] at ho';cases ho'
  exact⟨_,es',ep',hL,r'⟩) hok I.bare
theorem Inv.call{g':Array GenState}{t':Nat}{d':Drawn}{ch:List Addr}(I:Inv X pins σ H s)(u:Un (frs X.stack) ch H H' s.heap h')(hok:HOk X.prog X.w H' h')(hg:AllBare g')
  (hch:∀b∈ch,(b∈X.ex∨X.s₀.heap.objs.size<=b)/\b≠X.env.locals/\(∀x c,X.env.cells.lookup x=some c->c≠b)/\∀p∈X.pn++pins,p.1≠b):
  Inv X pins σ H' {s with heap:=h',gens:=g',drawn:=d',toks:=t'}:=by
 obtain⟨m,⟨o,es,ep,ho,r⟩,_⟩:=id I.loc
 obtain⟨sl,hL⟩:=u.any ho I.free fun z=>(hch _ z).2.1 rfl
 exact I.step (ch:=ch) hch (fun b o hL hb hc e n=>u.keep b o e n (fun z=>(aY.mp (I.stkSub b z)).elim hL hb) hc) (fun b o _ _ hc e n=>u.any e n hc) (fun b o hc e n=>u.free b o e n hc) (fun b o hc e=>u.there b o e hc) u.tups u.frzs u.tbls (fun m' hm=>by
  obtain⟨o',es',ep',ho',r'⟩:=hm
  rw[ho] at ho';cases ho'
  exact⟨_,es',ep',hL,r'⟩) hok hg
theorem Inv.turned{t':Nat}{it:Addr}(I:Inv X pins σ H s)(k:∀b o,b≠it->s.heap.get? b=some o->h'.get? b=some o)(hn:H it=none)(hL:it≠X.env.locals)
  (h1:it∈X.ex∨X.s₀.heap.objs.size<=it) (h2:∀x c,X.env.cells.lookup x=some c->c≠it) (h3:∀p∈X.pn++pins,p.1≠it):Inv X pins σ H {s with heap:=h',toks:=t'}:=by
 have nit:∀b u,H b=some u->b≠it:=fun b u e z=>by rw[z,hn] at e;cases e
 refine I.step (g':=s.gens) (d':=s.drawn) (ch:=[it]) (fun b hb=>?_) (fun b o _ _ hc e _=>k b o (fun z=>hc (by simp[z])) e) (fun b o _ _ hc e _=>⟨o.slots,k b o (fun z=>hc (by simp[z])) e⟩) (fun _ _ _ _ n=>n)
  (fun b o hc e=>⟨o,k b o (fun z=>hc (by simp[z])) e⟩) (fun _ _ e=>e) (fun _ _ _ e=>e) (fun b ps e=>⟨#[],by rw[e];simp⟩) (fun m hm=>?_) (fun b u e=>?_) I.bare
 ·have e:b=it:=by simpa using hb
  subst e
  exact⟨h1,hL,h2,h3⟩
 ·obtain⟨o,es,ep,ho,r⟩:=hm
  exact⟨o,es,ep,k _ o (Ne.symm hL) ho,r⟩
 ·refine (I.hok b u e).stay (fun c v hc q=>k c v ?_ q) (fun _ q=>q) fun _ _ q=>q
  rcases hc with z | z
  ·rw[z];exact nit b u e
  ·exact nit c _ z
theorem Inv.tok(I:Inv X pins σ H s)(t:Nat):Inv X pins σ H {s with toks:=t}:=I.un (h':=s.heap) (t':=t) Un.refl I.hok
theorem Inv.kept{t':Nat}(I:Inv X pins σ H s)(k:∀b u,s.heap.get? b=some u->h'.get? b=some u):Inv X pins σ H {s with heap:=h',toks:=t'}:=I.un (Un.kept k) (I.hok.kept k)
theorem Inv.laid{a:Addr}{o:HO}{t':Nat}(I:Inv X pins σ H s)(k:∀b u,s.heap.get? b=some u->h'.get? b=some u)(hp:s.heap.objs.size<=a)(new:ObjOk X.prog X.w (upd H a o) h' a o):
  Inv X pins σ (upd H a o) {s with heap:=h',toks:=t'}:=I.un (Un.laid k hp (I.hok.fresh hp)) (I.hok.laid k hp new)
theorem Inv.write{x e:Addr}{o:HO}{t':Nat}(I:Inv X pins σ H s)(mu:Mut (H x))(he:e=x∨H e=some (.own x))(k:∀b u,b≠e->s.heap.get? b=some u->h'.get? b=some u)(heo:∃u,h'.get? e=some u)
  (new:ObjOk X.prog X.w (upd H x o) h' x o):Inv X pins σ (upd H x o) {s with heap:=h',toks:=t'}:=I.un (Un.write mu he k heo) (I.hok.write mu he k heo new)
theorem Inv.pins_of{pins':List (Addr×Obj)}(I:Inv X pins σ H s)(h:∀p∈pins',s.heap.get? p.1=some p.2/\H p.1=none/\p.1≠X.env.locals/\p.1∉X.fs/\∀v,p.2.data≠ .cell v):Inv X pins' σ H s:=
 ⟨I.ok,I.os,I.bare,I.base,I.loc,I.cell,I.free,I.freeC,fun p hp=>(bV.mp hp).elim (fun z=>I.pin p (List.mem_append_left _ z)) (h p),I.hok,I.len⟩
theorem aqL{N:List Str}(hN:N.Nodup){i j:Nat}{x:Str}(a:N[i]? =some x)(b:N[j]? =some x):i=j:=by
 obtain⟨h1,e1⟩:=cB.mp a
 obtain⟨h2,e2⟩:=cB.mp b
 exact (List.getElem_inj hN).mp (e1.trans e2.symm)
theorem anJ{M:Model}{A:Around}{E:Value->Shared->Prop}{i:Nat}{x:Str}{v:V}{u:Value}{Q:Unit->Shared->Prop}(I:Inv X pins σ H s)(hN:X.N.Nodup)(hi:X.N[i]? =some x)(hx:Loc X.env.scope x)(r:RelV v u)
  (h:∀s',Inv X pins (σ.set i (some v)) H s'->(∃a,Heap.SameBut a s.heap s'.heap/\(a=X.env.locals∨X.env.cells.lookup x=some a))->Q () s') (hf:X.fn x=true∨X.env.scope.names.lookup x=some .local:=by first | exact .inl rfl | exact .inr rfl | assumption):wpAny M A (storeName X.env x u) Q E s:=by
 obtain⟨m,hn,hl⟩:=id I.loc
 have hcls:(X.env.scope.kind== .class||(X.env.scope.kind== .module&&X.env.locals !=X.env.globals))=false:=by rw[I.ok.kind];rfl
 have hiσ:i<σ.length:=by rw[I.len];exact (cB.mp hi).1
 have cne:=I.cne
 have tracked:∀{a:Addr} {h':Heap},(∃o,s.heap.get? a=some o/\H a=none)->Heap.SameBut a s.heap h'->HOk X.prog X.w H h':=fun {a h'} ha hs b ob e=>by
  obtain⟨_,_,hfree⟩:=ha
  refine (I.hok b ob e).stay (fun c w' hc q=>(hs.2 c ?_).trans q) (fun _ q=>q) fun _ _ q=>q
  rintro rfl
  rcases hc with rfl | hc
  ·rw[hfree] at e;cases e
  ·rw[hfree] at hc;cases hc
 rcases hx with hk | hk
 ·refine wpAny_storeName_local hk hn (fun h' hn' hs=>?_) hcls
  obtain⟨oL,_,_,hoL,_⟩:=id hn
  refine h _ ⟨I.ok,I.os,I.bare,⟨fun b o e n hb hx=>?_,fun b o e n hb hx=>?_,I.base.free,fun b o e hx=>?_,I.base.tups,I.base.frzs,I.base.tbls⟩,⟨_,hn',fun j y v' e1 e2 e3=>?_⟩,fun y c e=>?_,I.free,I.freeC,fun p hp=>?_,tracked ⟨oL,hoL,I.free⟩ hs,by simpa using I.len⟩ ⟨_,hs,.inl rfl⟩
  ·exact (hs.2 b (aX (a9 (aV e) I.ok.above))).trans (I.base.keep b o e n hb hx)
  ·obtain⟨sl,e1⟩:=I.base.slot b o e n hb hx
   exact⟨sl,(hs.2 b (aX (a9 (aV e) I.ok.above))).trans e1⟩
  ·obtain⟨o',e1⟩:=I.base.there b o e hx
   exact⟨o',(hs.2 b (aX (a9 (aV e) I.ok.above))).trans e1⟩
  ·by_cases hj:j=i
   ·subst hj
    rw[hi] at e1;cases e1
    rw[List.getElem?_set_self hiσ] at e2
    cases e2
    exact⟨u,r,.inl ⟨hk,by simp⟩⟩
   ·rw[List.getElem?_set_ne (Ne.symm hj)] at e2
    obtain⟨u',r',q⟩:=hl j y v' e1 e2 e3
    refine⟨u',r',?_⟩
    rcases q with ⟨k,e⟩ | ⟨k,c,e,z⟩
    ·refine .inl ⟨k,?_⟩
     have:y≠x:=fun e=>hj (aqL hN e1 (e▸hi))
     simp[this,e]
    ·exact .inr ⟨k,c,e,z.sameBut hs (cne y c e)⟩
  ·obtain⟨w',z⟩:=I.cell y c e
   exact⟨w',z.sameBut hs (cne y c e)⟩
  ·obtain⟨e,n,ne,nf,d⟩:=I.pin p hp
   exact⟨(hs.2 p.1 ne).trans e,n,ne,nf,d⟩
 ·have hfn:X.fn x=true:=by
   rcases hf with z | z
   ·exact z
   ·rw[z] at hk;cases hk
  obtain⟨c,hc⟩:=I.ok.has x (.inl hk)
  obtain⟨w',z⟩:=I.cell x c hc
  refine wpAny_storeName_cell I.ok.kind hk hc z (fun h' hc' hs=>?_)
  obtain⟨oc,hoc,hocd⟩:=id z
  refine h {s with heap:=h'} ⟨I.ok,I.os,I.bare,⟨fun b o e n hb hx=>?_,fun b o e n hb hx=>?_,I.base.free,fun b o e hx=>?_,I.base.tups,I.base.frzs,I.base.tbls⟩,⟨m,hn.sameBut hs (Ne.symm (cne x c hc)),fun j y v' e1 e2 e3=>?_⟩,fun y c' e=>?_,I.free,I.freeC,fun p hp=>?_,tracked ⟨oc,hoc,I.freeC x c hc⟩ hs,by simpa using I.len⟩ ⟨c,hs,.inr hc⟩
  ·exact (hs.2 b (aX (a9 (aV e) (I.ok.cab x c hfn hc)))).trans (I.base.keep b o e n hb hx)
  ·obtain⟨sl,e1⟩:=I.base.slot b o e n hb hx
   exact⟨sl,(hs.2 b (aX (a9 (aV e) (I.ok.cab x c hfn hc)))).trans e1⟩
  ·obtain⟨o',e1⟩:=I.base.there b o e hx
   exact⟨o',(hs.2 b (aX (a9 (aV e) (I.ok.cab x c hfn hc)))).trans e1⟩
  ·by_cases hj:j=i
   ·subst hj
    rw[hi] at e1;cases e1
    rw[List.getElem?_set_self hiσ] at e2
    cases e2
    exact⟨u,r,.inr ⟨.inl hk,c,hc,hc'⟩⟩
   ·rw[List.getElem?_set_ne (Ne.symm hj)] at e2
    obtain⟨u',r',q⟩:=hl j y v' e1 e2 e3
    refine⟨u',r',?_⟩
    rcases q with q | ⟨k,c',e,z'⟩
    ·exact .inl q
    ·refine .inr ⟨k,c',e,z'.sameBut hs ?_⟩
     rintro rfl
     exact hj (aqL hN e1 (I.ok.inj _ _ _ e hc▸hi))
  ·by_cases hcc:c'=c
   ·subst hcc;exact⟨_,hc'⟩
   ·obtain⟨w2,z2⟩:=I.cell y c' e
    exact⟨w2,z2.sameBut hs hcc⟩
  ·obtain⟨e,n,ne,nf,d⟩:=I.pin p hp
   refine⟨(hs.2 p.1 ?_).trans e,n,ne,nf,d⟩
   intro q
   rw[q,hoc] at e
   have q':oc=p.2:=a8 e
   exact d w' (by rw[←q'];exact hocd)
theorem ak1{M:Model}{A:Around}{E:Value->Shared->Prop}{i:Nat}{x:Str}{v:V}{u:Value}{Q:Unit->Shared->Prop}(I:Inv X pins σ H s)(hN:X.N.Nodup)(hi:X.N[i]? =some x)(hx:Loc X.env.scope x)(r:RelV v u)
  (h:∀s',Inv X pins (σ.set i (some v)) H s'->Q () s') (hf:X.fn x=true∨X.env.scope.names.lookup x=some .local:=by first | exact .inl rfl | exact .inr rfl | assumption):wpAny M A (storeName X.env x u) Q E s:=
 anJ I hN hi hx r (fun s' I' _=>h s' I') hf
theorem Inv.call'{s':Shared}{ch:List Addr}(I:Inv X pins σ H s)(ho:s'.os=s.os)(u:Un (frs X.stack) ch H H' s.heap s'.heap)(hok:HOk X.prog X.w H' s'.heap)(hg:AllBare s'.gens)
  (hch:∀b∈ch,(b∈X.ex∨X.s₀.heap.objs.size<=b)/\b≠X.env.locals/\(∀x c,X.env.cells.lookup x=some c->c≠b)/\∀p∈X.pn++pins,p.1≠b):Inv X pins σ H' s':=by
 obtain⟨h',g',d',t',o'⟩:=s'
 have e:o'=s.os:=ho
 subst e
 exact I.call (g':=g') (t':=t') (d':=d') u hok hg hch
end
noncomputable abbrev XK:=Value->Option Addr->Hp->Prop
noncomputable abbrev St:=List (Option V)
noncomputable abbrev VK:=V->Hp->Prop
noncomputable abbrev TE:=St->Hp->VK->Prop
noncomputable abbrev TT:=St->Hp->(Bool->Hp->Prop)->Prop
noncomputable abbrev TA:=St->Hp->(List V->Hp->Prop)->Prop
structure Ends where
 nx:St->Hp->Prop
 rt:VK
 bk:St->Hp->Prop:=fun _ _=>False
 ct:St->Hp->Prop:=fun _ _=>False
noncomputable abbrev TS:=Ends->St->Hp->Prop
noncomputable def EP(X:Cx)(pins:List (Addr×Obj))(σ:St)(Q:VK)(u:Value)(s':Shared):Prop:=∃v H',Inv X pins σ H' s'/\RelV v u/\Q v H'
noncomputable def TP(X:Cx)(pins:List (Addr×Obj))(σ:St)(Q:Bool->Hp->Prop)(b:Bool)(s':Shared):Prop:=∃H',Inv X pins σ H' s'/\Q b H'
noncomputable def AP(X:Cx)(pins:List (Addr×Obj))(σ:St)(Q:List V->Hp->Prop)(us:List Value)(s':Shared):Prop:=∃vs H',Inv X pins σ H' s'/\Vals vs us/\Q vs H'
noncomputable def SP(X:Cx)(pins:List (Addr×Obj))(D:Ends)(f:Flow)(s':Shared):Prop:=
 match f with
 |.next=>∃σ' H',Inv X pins σ' H' s'/\D.nx σ' H'
 |.brk=>∃σ' H',Inv X pins σ' H' s'/\D.bk σ' H'
 |.cont=>∃σ' H',Inv X pins σ' H' s'/\D.ct σ' H'
 |.ret u=>∃v σ' H',Inv X pins σ' H' s'/\RelV v u/\D.rt v H'
noncomputable def PE(X:Cx)(e:Expr)(t:TE):Prop:=
 ∀(pins:List (Addr×Obj)) (s:Shared) (σ:St) (H:Hp) (Q:VK),Inv X pins σ H s->t σ H Q->wpAny (model X.prog X.w) X.A (eval e X.env) (EP X pins σ Q) X.xe s
noncomputable def PT(X:Cx)(e:Expr)(t:TT):Prop:=
 ∀(pins:List (Addr×Obj)) (s:Shared) (σ:St) (H:Hp) (Q:Bool->Hp->Prop),Inv X pins σ H s->t σ H Q->wpAny (model X.prog X.w) X.A (isTrue e X.env (eval e X.env)) (TP X pins σ Q) X.xe s
noncomputable def PW(X:Cx)(e:Expr)(t:TT):Prop:=
 ∀(whole:Sem Value) (pins:List (Addr×Obj)) (s:Shared) (σ:St) (H:Hp) (Q:Bool->Hp->Prop),Inv X pins σ H s->t σ H Q->wpAny (model X.prog X.w) X.A (isTrue e X.env whole) (TP X pins σ Q) X.xe s
theorem PW.pt{X:Cx}{e:Expr}{t:TT}(h:PW X e t):PT X e t:=h _
noncomputable def PA(X:Cx)(es:List Expr)(t:TA):Prop:=
 ∀(pos:Pos) (pins:List (Addr×Obj)) (s:Shared) (σ:St) (H:Hp) (Q:List V->Hp->Prop),Inv X pins σ H s->t σ H Q->wpAny (model X.prog X.w) X.A (spliced (backTo pos (starEach es X.env))) (AP X pins σ Q) X.xe s
noncomputable def PS(X:Cx)(st:Stmt)(t:TS):Prop:=
 ∀(pins:List (Addr×Obj)) (s:Shared) (σ:St) (H:Hp) (D:Ends),Inv X pins σ H s->t D σ H->wpAny (model X.prog X.w) X.A (exec st X.env) (SP X pins D) X.xe s
noncomputable def PSs(X:Cx)(st:List Stmt)(t:TS):Prop:=
 ∀(pins:List (Addr×Obj)) (s:Shared) (σ:St) (H:Hp) (D:Ends),Inv X pins σ H s->t D σ H->wpAny (model X.prog X.w) X.A (execs st X.env) (SP X pins D) X.xe s
theorem thn{α:Type}{t:Sem α}{Q Q':α->Shared->Prop}{M:Model}{A:Around}{E:Value->Shared->Prop}{s:Shared}(h:wpAny M A t Q E s)(hQ:∀a s,Q a s->Q' a s):wpAny M A t Q' E s:=dX h hQ fun _ _ x=>x
section
variable{X:Cx}
noncomputable def aCH(i:Nat):TE:=fun σ H Q=>∃v,σ[i]? =some (some v)/\Q v H
noncomputable def tC(v:V):TE:=fun _ H Q=>Q v H
theorem aEZ{i:Nat}{x:Str}{pos:Pos}(hN:X.N[i]? =some x)(hv:Vis X.env.scope x)(hd:(x==("__debug__":Str))=false:=by decide)(hcd:(x==("__classdict__":Str))=false:=by decide):PE X (.Name x pos) (aCH i):=by
 intro pins s σ H Q I h
 obtain⟨v,e,h⟩:=h
 obtain⟨m,hn,hl⟩:=I.loc
 obtain⟨u,r,l⟩:=hl i x v hN e hv
 have fin:EP X pins σ Q u s:=⟨v,H,I,r,h⟩
 rcases l with ⟨hk,hm⟩ | ⟨hk,c,hc,hcell⟩
 ·exact wpAny_Name (wpAny_loadName_local I.ok.kind hk hn hm fin) hd
 ·rcases hk with hk | hk
  ·exact wpAny_Name (wpAny_loadName_cell I.ok.kind hk hc hcell fin) hd
  ·exact wpAny_Name (wpAny_loadName_free I.ok.kind hk hc hcell fin hcd) hd
theorem ax8{i j pos}:PE X (.Constant (.int i) j pos) (tC (.int i)):=fun _ _ _ H _ I h=>wpAny_Constant_int ⟨.int i,H,I.tok _,⟨_,rfl⟩,h⟩
theorem aNH{b j pos}:PE X (.Constant (.bool b) j pos) (tC (.bl b)):=fun _ _ _ H _ I h=>Constant_bool ⟨.bl b,H,I,rfl,h⟩
theorem aFM{j pos}:PE X (.Constant .none j pos) (tC .non):=fun _ _ _ H _ I h=>Constant_none ⟨.non,H,I,rfl,h⟩
theorem az3{x j pos}:PE X (.Constant (.str x) j pos) (tC (.str x)):=fun _ _ _ H _ I h=>Calls.Constant_str ⟨.str x,H,I.tok _,⟨_,rfl⟩,h⟩
noncomputable def Gl(X:Cx)(x:Str):Prop:=X.env.kindOf x=some .globalImplicit
theorem aeS{E:Value->Shared->Prop}{pins:List (Addr×Obj)}{s:Shared}{σ:St}{H:Hp}{x:Str}{u:Value}{pos:Pos}{Q:Value->Shared->Prop}(I:Inv X pins σ H s)(hg:Gl X x)(hm:X.mg x=some u)(h:Q u s)
  (hd:(x==("__debug__":Str))=false:=by decide):wpAny (model X.prog X.w) X.A (eval (.Name x pos) X.env) Q E s:=
 Calls.Name_function_global I.ok.kind hg (Calls.loadGlobal_global (by rw[I.ok.glob];exact I.mod.glob.keeps I.bk) hm h) hd
theorem ahA{E:Value->Shared->Prop}{pins:List (Addr×Obj)}{s:Shared}{σ:St}{H:Hp}{x:Str}{u:Value}{pos:Pos}{Q:Value->Shared->Prop}(I:Inv X pins σ H s)(hg:Gl X x)(hm:X.mg x=none)(hv:bootBuiltins x=some u)(h:Q u s)
  (hn:x≠"__name__":=by decide) (hd:(x==("__debug__":Str))=false:=by decide):wpAny (model X.prog X.w) X.A (eval (.Name x pos) X.env) Q E s:=by
 obtain⟨mb,h1,h2⟩:=I.mod.blt
 exact Calls.Name_function_global I.ok.kind hg (Calls.loadGlobal_builtin (by rw[I.ok.glob];exact I.mod.glob.keeps I.bk) hm (by rw[I.ok.blt];exact h1.keeps I.bk) ((h2 x hn).trans hv) h) hd
theorem aCM{x:Str}{v:V}{u:Value}{pos:Pos}(hg:Gl X x)(hm:X.mg x=some u)(r:RelV v u)(hd:(x==("__debug__":Str))=false:=by decide):PE X (.Name x pos) (tC v):=
 fun _ _ _ H _ I h=>aeS I hg hm ⟨v,H,I,r,h⟩ hd
theorem aBX{x:Str}{v:V}{u:Value}{pos:Pos}(hg:Gl X x)(hm:X.mg x=none)(hv:bootBuiltins x=some u)(r:RelV v u)(hn:x≠"__name__":=by decide)(hd:(x==("__debug__":Str))=false:=by decide):PE X (.Name x pos) (tC v):=
 fun _ _ _ H _ I h=>ahA I hg hm hv ⟨v,H,I,r,h⟩ hn hd
variable{a b:Expr}{ta tb:TE}{pos:Pos}
noncomputable def PC(X:Cx)(op:CmpOp)(a b:Expr)(t:TE):Prop:=
 ∀(pins:List (Addr×Obj)) (s:Shared) (σ:St) (H:Hp) (Q:VK),Inv X pins σ H s->t σ H Q->
  wpAny (model X.prog X.w) X.A (eval a X.env) (fun v s₁=>wpAny (model X.prog X.w) X.A (eval b X.env) (fun u s₂=>wpAny (model X.prog X.w) X.A (compareOp op v u) (EP X pins σ Q) X.xe s₂) X.xe s₁) X.xe s
theorem azI(b:Expr){op:CmpOp}(h:op≠ .In)(h2:op≠ .NotIn):behindInMarks op b=false:=by
 have e1:(op==CmpOp.In)=false:=by cases op<;>first | rfl | exact absurd rfl h
 have e2:(op==CmpOp.NotIn)=false:=by cases op<;>first | rfl | exact absurd rfl h2
 cases b<;>simp[behindInMarks,e1,e2]
noncomputable def tB(t:TE):TT:=fun σ H Q=>t σ H fun x H1=>∃c,x=.bl c/\Q c H1
theorem aEB{op:CmpOp}{t:TE}(h:PC X op a b t)(h1:behindInMarks op b=false:=by first | exact azI _ (by decide) (by decide) | rfl):PT X (.Compare a [op] [b] pos) (tB t):=by
 intro pins s σ H Q I hw
 refine wpAny_isTrue_Compare1 (thn (h pins s σ H _ I hw) fun v s1 h1=>thn h1 fun u s2 h2=>thn h2 fun c s3 ⟨x,H1,I1,r1,q1⟩=>?_) h1
 obtain⟨d,rfl,q⟩:=q1
 cases r1
 exact eK ⟨H1,I1,q⟩
theorem aE4{e:Expr}{t:TE}(h:PE X e t)(he:∀whole,isTrue e X.env whole=(do let v ←whole;standAt e.pos;holding [v] (truthy v)):=by intro _;rfl):PT X e (tB t):=by
 intro pins s σ H Q I hw
 refine isTrue_plain (thn (h pins s σ H _ I hw) fun v s1 ⟨x,H1,I1,r1,q1⟩=>?_) (he _)
 obtain⟨d,rfl,q⟩:=q1
 cases r1
 exact eK ⟨H1,I1,q⟩
variable{tA tB':TT}{rest:List Expr}
noncomputable def aG9(t u:TT):TT:=fun σ H Q=>t σ H fun c H1=>if c=true then u σ H1 Q else Q false H1
noncomputable def tOr(t u:TT):TT:=fun σ H Q=>t σ H fun c H1=>if c=true then Q true H1 else u σ H1 Q
noncomputable def aIT(t:TT):TT:=fun σ H Q=>t σ H fun c H1=>Q (!c) H1
theorem aBM(ha:PT X a tA):PW X (.BoolOp .And [a] pos) tA:=by
 intro wh pins s σ H Q I h
 refine isTrue_and (thn (ha pins s σ H Q I h) fun c s1 e=>?_)
 cases c with
 |true=>exact isTrue_and_nil e
 |false=>exact e
theorem aE5(ha:PT X a tA):PW X (.BoolOp .Or [a] pos) tA:=by
 intro wh pins s σ H Q I h
 refine isTrue_or (thn (ha pins s σ H Q I h) fun c s1 e=>?_)
 cases c with
 |false=>exact isTrue_or_nil e
 |true=>exact e
theorem aFZ(ha:PT X a tA)(hb:PW X (.BoolOp .And (b::rest) pos) tB'):PW X (.BoolOp .And (a::b::rest) pos) (aG9 tA tB'):=by
 intro wh pins s σ H Q I h
 refine isTrue_and (thn (ha pins s σ H _ I h) fun c s1 ⟨H1,I1,q1⟩=>?_)
 cases c with
 |true=>exact hb wh pins s1 σ H1 Q I1 q1
 |false=>exact⟨H1,I1,q1⟩
theorem aMM(ha:PT X a tA)(hb:PW X (.BoolOp .Or (b::rest) pos) tB'):PW X (.BoolOp .Or (a::b::rest) pos) (tOr tA tB'):=by
 intro wh pins s σ H Q I h
 refine isTrue_or (thn (ha pins s σ H _ I h) fun c s1 ⟨H1,I1,q1⟩=>?_)
 cases c with
 |true=>exact⟨H1,I1,q1⟩
 |false=>exact hb wh pins s1 σ H1 Q I1 q1
theorem aFQ(ha:PT X a tA):PT X (.UnaryOp .Not a pos) (aIT tA):=by
 intro pins s σ H Q I h
 exact isTrue_not (ha pins s σ H (fun c H1=>Q (!c) H1) I h)
noncomputable def aDJ(ta tb:TE):TE:=fun σ H Q=>ta σ H fun x H1=>∃c,x=.bl c/\if c=true then tb σ H1 Q else Q (.bl false) H1
noncomputable def aJN(ta tb:TE):TE:=fun σ H Q=>ta σ H fun x H1=>∃c,x=.bl c/\if c=true then Q (.bl true) H1 else tb σ H1 Q
noncomputable def aDR(ta:TE):TE:=fun σ H Q=>ta σ H fun x H1=>∃c,x=.bl c/\Q (.bl (!c)) H1
theorem aEL{op}{t:TE}(h:PE X a t):PE X (.BoolOp op [a] pos) t:=fun pins s σ H Q I hw=>BoolOp_one (h pins s σ H Q I hw)
theorem aGF(ha:PE X a ta)(hb:PE X (.BoolOp .And (b::rest) pos) tb):PE X (.BoolOp .And (a::b::rest) pos) (aDJ ta tb):=by
 intro pins s σ H Q I h
 refine BoolOp_and (thn (ha pins s σ H _ I h) fun v s1 ⟨x,H1,I1,r1,q1⟩=>?_)
 obtain⟨c,rfl,q1⟩:=q1
 cases r1
 refine eK ?_
 cases c with
 |true=>exact hb pins s1 σ H1 Q I1 q1
 |false=>exact⟨.bl false,H1,I1,rfl,q1⟩
theorem aPD(ha:PE X a ta)(hb:PE X (.BoolOp .Or (b::rest) pos) tb):PE X (.BoolOp .Or (a::b::rest) pos) (aJN ta tb):=by
 intro pins s σ H Q I h
 refine BoolOp_or (thn (ha pins s σ H _ I h) fun v s1 ⟨x,H1,I1,r1,q1⟩=>?_)
 obtain⟨c,rfl,q1⟩:=q1
 cases r1
 refine eK ?_
 cases c with
 |false=>exact hb pins s1 σ H1 Q I1 q1
 |true=>exact⟨.bl true,H1,I1,rfl,q1⟩
theorem aEU(ha:PE X a ta):PE X (.UnaryOp .Not a pos) (aDR ta):=by
 intro pins s σ H Q I h
 refine UnaryOp_ (thn (ha pins s σ H _ I h) fun v s1 ⟨x,H1,I1,r1,q1⟩=>?_)
 obtain⟨c,rfl,q1⟩:=q1
 cases r1
 exact not_of (eK ⟨.bl (!c),H1,I1,rfl,q1⟩)
noncomputable def tIf(t:TT)(ta tb:TE):TE:=fun σ H Q=>t σ H fun c H1=>if c=true then ta σ H1 Q else tb σ H1 Q
theorem ayT{c:Expr}(hc:PT X c tA)(ha:PE X a ta)(hb:PE X b tb):PE X (.IfExp c a b pos) (tIf tA ta tb):=by
 intro pins s σ H Q I h
 refine wpAny_IfExp (thn (hc pins s σ H _ I h) fun d s1 ⟨H1,I1,q1⟩=>?_)
 cases d with
 |true=>exact ha pins s1 σ H1 Q I1 q1
 |false=>exact hb pins s1 σ H1 Q I1 q1
end
noncomputable def SqL(K:FG)(H:Hp)(a:Addr)(xs:List V):Prop:=
 Rd H a (.lst xs)∨
  ∃(o:Obj) (its:Array Value) (n:Nat),K.lookup a=some o/\o.cls=.type "list"/\o.dict=none/\o.data=.seq its n/\its.size<=sizeLine/\Vals xs its.toList
noncomputable def SqT(K:FG)(H:Hp)(a:Addr)(xs:List V):Prop:=
 Rd H a (.tup xs)∨
  ∃(o:Obj) (its:Array Value) (n:Nat),K.lookup a=some o/\o.cls=.type "tuple"/\o.data=.seq its n/\its.size<=sizeLine/\Vals xs its.toList
noncomputable def absV:Value->Option V
 |.none=>some .non
 |.bool b=>some (.bl b)
 |.int i _=>some (.int i)
 |.str x _=>some (.str x)
 |.bytes b _=>some (.byt b)
 |.float b _=>some (.flt b)
 |.ref a=>some (.ref a)
 |.type n=>some (.ty n)
 |_=>none
theorem RelV.abs{x:V}{u:Value}(r:RelV x u):absV u=some x:=by
 cases x with
 |non=>cases r;rfl
 |bl _=>cases r;rfl
 |int _=>obtain⟨t,rfl⟩:=r;rfl
 |str _=>obtain⟨t,rfl⟩:=r;rfl
 |byt _=>obtain⟨t,rfl⟩:=r;rfl
 |flt _=>obtain⟨t,rfl⟩:=r;rfl
 |ref _=>cases r;rfl
 |ty _=>cases r;rfl
theorem RelV.inj{x y:V}{u:Value}(r:RelV x u)(q:RelV y u):x=y:=a8 (r.abs.symm.trans q.abs)
theorem Vals.inj:∀{xs ys:List V} {us:List Value},Vals xs us->Vals ys us->xs=ys
 |_,_,_,.nil,.nil=>rfl
 |_,_,_,.cons r t,.cons r' t'=>by rw[r.inj r',Vals.inj t t']
section
variable{X:Cx}{pins:List (Addr×Obj)}{σ:St}{H:Hp}{s:Shared}{a:Addr}{xs ys:List V}
theorem SqL.of{K:FG}(h:H a=some (.lst xs)):SqL K H a xs:=.inl (.inl h)
theorem SqT.of{K:FG}(h:H a=some (.tup xs)):SqT K H a xs:=.inl (.inl h)
theorem Inv.list(I:Inv X pins σ H s)(h:SqL X.K H a xs):∃its:List Value,Vals xs its/\PlainL s.heap a its.toArray/\xs.length<=sizeLine:=by
 rcases h with h | ⟨o,its,n,hk,hc,hd,hs,hz,r⟩
 ·obtain⟨z,its,n,r,e⟩:=h.ok I.hok
  exact⟨its,r,⟨_,n,e,rfl,rfl,rfl⟩,z⟩
 ·refine⟨its.toList,r,⟨o,n,I.kIn a o hk,hc,hd,by simpa using hs⟩,?_⟩
  have e:=r.length
  simp only[bW] at e
  omega
theorem Inv.tuple(I:Inv X pins σ H s)(h:SqT X.K H a xs):∃its:List Value,Vals xs its/\IsTup s.heap a its.toArray/\xs.length<=sizeLine:=by
 rcases h with h | ⟨o,its,n,hk,hc,hs,hz,r⟩
 ·obtain⟨z,its,r,p⟩:=h.ok I.hok
  exact⟨its,r,p,z⟩
 ·refine⟨its.toList,r,⟨o,I.kIn a o hk,hc,n,by simpa using hs⟩,?_⟩
  have e:=r.length
  simp only[bW] at e
  omega
theorem Inv.list_inj(I:Inv X pins σ H s)(h:SqL X.K H a xs)(h':SqL X.K H a ys):xs=ys:=by
 obtain⟨its,r,⟨o,n,e,_,_,d⟩,_⟩:=I.list h
 obtain⟨its',r',⟨o',n',e',_,_,d'⟩,_⟩:=I.list h'
 rw[e] at e';cases e'
 rw[d] at d'
 injection d' with d1 _
 have:its=its':=by simpa using congrArg Array.toList d1
 subst this
 exact r.inj r'
theorem Inv.tuple_inj(I:Inv X pins σ H s)(h:SqT X.K H a xs)(h':SqT X.K H a ys):xs=ys:=by
 obtain⟨its,r,⟨o,e,_,n,d⟩,_⟩:=I.tuple h
 obtain⟨its',r',⟨o',e',_,n',d'⟩,_⟩:=I.tuple h'
 rw[e] at e';cases e'
 rw[d] at d'
 injection d' with d1 _
 have:its=its':=by simpa using congrArg Array.toList d1
 subst this
 exact r.inj r'
end
noncomputable abbrev Cx.wish(X:Cx)(E:Value->Shared->Prop):Cx:={X with xe:=E}
noncomputable abbrev Cx.nox(X:Cx):Cx:=X.wish fun _ _=>False
theorem Cx.Ok.wish{X:Cx}(ok:X.Ok)(E:Value->Shared->Prop):(X.wish E).Ok:=
 ⟨ok.mod,ok.kind,ok.glob,ok.blt,ok.above,ok.inj,ok.has,ok.cab,ok.hd,ok.frames,ok.stk,ok.exf,ok.bs,ok.bsz,ok.noex,ok.exfs,ok.funs,ok.frf⟩
theorem Cx.Ok.unwish{X:Cx}{E:Value->Shared->Prop}(ok:(X.wish E).Ok):X.Ok:=
 ⟨ok.mod,ok.kind,ok.glob,ok.blt,ok.above,ok.inj,ok.has,ok.cab,ok.hd,ok.frames,ok.stk,ok.exf,ok.bs,ok.bsz,ok.noex,ok.exfs,ok.funs,ok.frf⟩
section
variable{X:Cx}{pins:List (Addr×Obj)}{σ:St}{H:Hp}{s:Shared}{E:Value->Shared->Prop}
theorem Inv.wish(I:Inv X pins σ H s)(E:Value->Shared->Prop):Inv (X.wish E) pins σ H s:=⟨I.ok.wish E,I.os,I.bare,I.base,I.loc,I.cell,I.free,I.freeC,I.pin,I.hok,I.len⟩
theorem Inv.unwish(I:Inv (X.wish E) pins σ H s):Inv X pins σ H s:=⟨I.ok.unwish,I.os,I.bare,I.base,I.loc,I.cell,I.free,I.freeC,I.pin,I.hok,I.len⟩
theorem SP.unwish{D:Ends}{f:Flow}{s':Shared}(h:SP (X.wish E) pins D f s'):SP X pins D f s':=by
 cases f with
 |next=>obtain⟨σ',H',I,q⟩:=h;exact⟨σ',H',I.unwish,q⟩
 |brk=>obtain⟨σ',H',I,q⟩:=h;exact⟨σ',H',I.unwish,q⟩
 |cont=>obtain⟨σ',H',I,q⟩:=h;exact⟨σ',H',I.unwish,q⟩
 |ret u=>obtain⟨v,σ',H',I,r,q⟩:=h;exact⟨v,σ',H',I.unwish,r,q⟩
theorem PSs.nox{st:List Stmt}{t:TS}(h:PSs X.nox st t):PSs X st t:=fun pins s σ H D I hw=>
 dX (h pins s σ H D (I.wish _) hw) (fun _ _ q=>q.unwish) fun _ _ z=>False.elim z
end
section
variable{X:Cx}{st:Stmt}{rest:List Stmt}{t u:TS}{e:Expr}{te:TE}{pos:Pos}
noncomputable def aC7:TS:=fun D σ H=>D.nx σ H
noncomputable def aA3(t u:TS):TS:=fun D σ H=>t {D with nx:=u D} σ H
theorem aCL:PSs X [] aC7:=fun _ _ σ H _ I h=>wpAny_execs_nil ⟨σ,H,I,h⟩
theorem ax4(h1:PS X st t)(h2:PSs X rest u):PSs X (st::rest) (aA3 t u):=by
 intro pins s σ H D I h
 refine wpAny_execs_cons (thn (h1 pins s σ H {D with nx:=u D} I h) fun f s1 q=>?_)
 cases f with
 |next=>
  obtain⟨σ',H',I',q⟩:=q
  exact h2 pins s1 σ' H' D I' q
 |ret v=>exact q
 |brk=>exact q
 |cont=>exact q
theorem aB2(h1:PS X st t):PSs X [st] t:=by
 intro pins s σ H D I h
 refine wpAny_execs_cons (thn (h1 pins s σ H D I h) fun f s1 q=>?_)
 cases f with
 |next=>exact wpAny_execs_nil q
 |ret v=>exact q
 |brk=>exact q
 |cont=>exact q
theorem Inv.quiet{pins:List (Addr×Obj)}{σ:St}{H:Hp}{s:Shared}(I:Inv X pins σ H s):interactive X.env=false:=by simp[interactive,I.ok.kind]
noncomputable def aC3(te:TE):TS:=fun D σ H=>te σ H fun _ H1=>D.nx σ H1
theorem aA0(he:PE X e te)(hs:swapsWith e none pos.line X.env=pure false:=by rfl):PS X (.Expr e pos) (aC3 te):=by
 intro pins s σ H D I h
 exact wpAny_Expr_any (thn (he pins s σ H _ I h) fun v s1 ⟨x,H1,I1,r1,q1⟩=>⟨σ,H1,I1,q1⟩) I.quiet hs
noncomputable def aH0(te:TE):TS:=fun D σ H=>te σ H D.rt
theorem aD4(he:PE X e te):PS X (.Return (some e) pos) (aH0 te):=by
 intro pins s σ H D I h
 exact wpAny_Return_some (thn (he pins s σ H _ I h) fun v s1 ⟨x,H1,I1,r1,q1⟩=>⟨x,σ,H1,I1,r1,q1⟩)
noncomputable def aMT(c:TT)(t u:TS):TS:=fun D σ H=>c σ H fun b H1=>if b=true then t D σ H1 else u D σ H1
theorem aG7{c:Expr}{a b:List Stmt}{tc:TT}(hc:PT X c tc)(ha:PSs X a t)(hb:PSs X b u):PS X (.If c a b pos) (aMT tc t u):=by
 intro pins s σ H D I h
 refine wpAny_If (thn (hc pins s σ H _ I h) fun d s1 ⟨H1,I1,q1⟩=>?_)
 cases d with
 |true=>exact ha pins s1 σ H1 D I1 q1
 |false=>exact hb pins s1 σ H1 D I1 q1
noncomputable def az5:TS:=fun _ _ _=>False
theorem ayH:PS X st az5:=fun _ _ _ _ _ _ h=>h.elim
end
noncomputable abbrev TG:=V->St->Hp->(St->Hp->Prop)->Prop
noncomputable abbrev TGs:=List V->St->Hp->(St->Hp->Prop)->Prop
noncomputable def PG(X:Cx)(target:Expr)(t:TG):Prop:=
 ∀(pins:List (Addr×Obj)) (s:Shared) (σ:St) (H:Hp) (v:V) (u:Value) (Q:St->Hp->Prop),Inv X pins σ H s->RelV v u->t v σ H Q->
  wpAny (model X.prog X.w) X.A (assign target X.env u) (fun _ s'=>∃σ' H',Inv X pins σ' H' s'/\Q σ' H') X.xe s
noncomputable def PGs(X:Cx)(ts:List Expr)(t:TGs):Prop:=
 ∀(pins:List (Addr×Obj)) (s:Shared) (σ:St) (H:Hp) (vs:List V) (us:List Value) (Q:St->Hp->Prop),Inv X pins σ H s->Vals vs us->t vs σ H Q->
  wpAny (model X.prog X.w) X.A (assignInOrder ((assignEach ts X.env).map (·.2)) us) (fun _ s'=>∃σ' H',Inv X pins σ' H' s'/\Q σ' H') X.xe s
noncomputable abbrev aGH:=V->V->V->Hp->(Hp->Prop)->Prop
noncomputable def aGY(X:Cx)(t:aGH):Prop:=
 ∀(pins:List (Addr×Obj)) (s:Shared) (σ:St) (H:Hp) (o i v:V) (ov iv u:Value) (Q:Hp->Prop),Inv X pins σ H s->RelV o ov->RelV i iv->RelV v u->t o i v H Q->
  wpAny (model X.prog X.w) X.A (setItem ov iv u) (fun _ s'=>∃H',Inv X pins σ H' s'/\Q H') X.xe s
section
variable{X:Cx}{pos:Pos}
noncomputable def ac5(i:Nat):TG:=fun v σ H Q=>Q (σ.set i (some v)) H
theorem aBT{i:Nat}{x:Str}(hN:X.N.Nodup)(hi:X.N[i]? =some x)(hx:Loc X.env.scope x)(hf:X.fn x=true∨X.env.scope.names.lookup x=some .local:=by first | exact .inl rfl | exact .inr rfl | assumption):PG X (.Name x pos) (ac5 i):=by
 intro pins s σ H v u Q I r h
 exact wpAny_assign_Name (ak1 I hN hi hx r (fun s' I'=>⟨_,H,I',h⟩) hf)
noncomputable def aFV:TGs:=fun vs σ H Q=>vs=[]/\Q σ H
noncomputable def au7(t:TG)(u:TGs):TGs:=fun vs σ H Q=>∃v r,vs=v::r/\t v σ H fun σ' H'=>u r σ' H' Q
theorem aCA:PGs X [] aFV:=by
 intro pins s σ H vs us Q I r h
 obtain⟨e,h⟩:=h
 subst e
 cases r
 exact assignInOrder_nil ⟨σ,H,I,h⟩
theorem ayV{e:Expr}{es:List Expr}{t:TG}{u:TGs}(h1:PG X e t)(h2:PGs X es u)
  (hs:(assignEach (e::es) X.env).map (·.2)=assign e X.env::(assignEach es X.env).map (·.2):=by rfl):PGs X (e::es) (au7 t u):=by
 intro pins s σ H vs us Q I r h
 obtain⟨v,vr,e1,h⟩:=h
 subst e1
 cases r with
 |cons r rr=>
  rw[hs]
  refine assignInOrder_cons (thn (h1 pins s σ H _ _ _ I r h) fun _ s1 ⟨σ1,H1,I1,q1⟩=>?_)
  exact h2 pins s1 σ1 H1 _ _ Q I1 rr q1
noncomputable def aBK(K:FG)(n:Nat)(t:TGs):TG:=fun v σ H Q=>∃a xs,v=.ref a/\SqT K H a xs/\xs.length=n/\t xs σ H Q
theorem aEE{es:List Expr}{k:Nat}{t:TGs}{n:Nat}(hc:X.calm=true)(h:PGs X es t)
  (hn:(assignEach es X.env).length=n:=by rfl) (hst:(assignEach es X.env).findIdx? (·.1)=none:=by rfl):PG X (.Tuple es k pos) (aBK X.K n t):=by
 intro pins s σ H v u Q I r hw
 obtain⟨a,xs,e1,hq,hl,hw⟩:=hw
 subst e1
 cases r
 obtain⟨its,rv,ht,hz⟩:=I.tuple hq
 refine assign_Tuple_tuple (I.ok.hd hc) ht (by simp[hn,←hl,rv.length]) hst fun h' hx=>?_
 have I1:Inv X pins σ H {s with heap:=h'}:=I.kept (t':=s.toks) fun b o e=>hx b o (aX (aV e)) e
 exact h pins _ σ H xs _ Q I1 (by simpa using rv) hw
noncomputable def aOG(to ti:TE)(t:aGH):TG:=fun v σ H Q=>to σ H fun o H1=>ti σ H1 fun i H2=>t o i v H2 fun H3=>Q σ H3
theorem aE1{o i:Expr}{to ti:TE}{t:aGH}(ho:PE X o to)(hi:PE X i ti)(hs:aGY X t)
  (ha:∀v,assign (.Subscript o i pos) X.env v=(do
   let ov ←holding [v] (eval o X.env)
   let iv ←holding [v,ov] (eval i X.env)
   standAt pos
   holding [v,ov,iv] (setItem ov iv v)
   release [v,ov,iv] []):=by intro _;rfl):PG X (.Subscript o i pos) (aOG to ti t):=by
 intro pins s σ H v u Q I r h
 rw[ha]
 refine dW (d5 (thn (ho pins s σ H _ I h) fun ov s1 ⟨x,H1,I1,r1,q1⟩=>?_))
 refine dW (d5 (thn (hi pins s1 σ H1 _ I1 q1) fun iv s2 ⟨y,H2,I2,r2,q2⟩=>?_))
 refine dW (wpAny_standAt (dW (d5 (thn (hs pins s2 σ H2 x y v ov iv u _ I2 r1 r2 r q2) fun _ s3 ⟨H3,I3,q3⟩=>?_))))
 exact wpAny_release ⟨σ,H3,I3,q3⟩
noncomputable def asW(te:TE)(g:TG):TS:=fun D σ H=>te σ H fun x H1=>g x σ H1 D.nx
theorem aFY{tg e:Expr}{te:TE}{g:TG}(he:PE X e te)(hg:PG X tg g)(hs:swapsWithSole [tg] e pos.line X.env=pure false:=by rfl)(hw:swappedStores [tg] e X.env=pure none:=by rfl)
  (h1:(assignEach [tg] X.env).map (·.2)=[assign tg X.env]:=by rfl):PS X (.Assign [tg] e pos) (asW te g):=by
 intro pins s σ H D I h
 refine wpAny_Assign_stores (thn (he pins s σ H _ I h) fun v s1 ⟨x,H1,I1,r1,q1⟩=>?_) hs hw
 rw[h1]
 exact thn (hg pins s1 σ H1 x v _ I1 r1 q1) fun _ s2 q=>q
theorem aD3{i:Nat}{x:Str}{e:Expr}{te:TE}{pos':Pos}(hN:X.N.Nodup)(hi:X.N[i]? =some x)(hx:Loc X.env.scope x)(he:PE X e te)(hs:swapsWith e (some (.Name x pos')) pos.line X.env=pure false:=by rfl)(hf:X.fn x=true∨X.env.scope.names.lookup x=some .local:=by first | exact .inl rfl | exact .inr rfl | assumption):
  PS X (.Assign [.Name x pos'] e pos) (asW te (ac5 i)):=by
 intro pins s σ H D I h
 refine wpAny_Assign_Name (thn (he pins s σ H _ I h) fun v s1 ⟨y,H1,I1,r1,q1⟩=>?_) hs
 exact ak1 I1 hN hi hx r1 (fun s2 I2=>⟨_,H1,I2,q1⟩) hf
end
section
variable{X:Cx}{pos:Pos}
noncomputable def atV(c:TT)(tb:TS):TS:=fun D σ H=>∃W:Nat->St->Hp->Prop,(∃m,W m σ H)/\∀m σ H,W m σ H->
 c σ H fun b H1=>if b=true then ∃N:St->Hp->Prop,(∀σ' H',N σ' H'->∃m',m'<m/\W m' σ' H')/\tb {D with nx:=N,ct:=N,bk:=D.nx} σ H1 else D.nx σ H1
theorem aAB{c:Expr}{body:List Stmt}{tc:TT}{tb:TS}(hp:PassesOwn (model X.prog X.w) X.A X.env X.xe)(hc:PT X c tc)(hb:PSs X body tb):PS X (.While c body [] pos) (atV tc tb):=by
 intro pins s σ H D I h
 obtain⟨W,⟨m0,w0⟩,turn⟩:=h
 refine wpAny_While (codeAny_whileLoop (fun n s'=>∃σ' H',Inv X pins σ' H' s'/\W n σ' H') ?_ m0 ⟨σ,H,I,w0⟩)
 rintro n s1 ⟨σ1,H1,I1,w1⟩
 refine dR hp (thn (hc pins s1 σ1 H1 _ I1 (turn n σ1 H1 w1)) fun b s2 ⟨H2,I2,q2⟩=>?_)
 cases b with
 |true=>
  obtain⟨N,hN,q2⟩:=q2
  rw[if_pos rfl]
  refine dR hp (thn (hb pins s2 σ1 H2 _ I2 q2) fun f s3 q3=>?_)
  cases f with
  |next=>
   obtain⟨σ3,H3,I3,n3⟩:=q3
   obtain⟨m',hm,w3⟩:=hN σ3 H3 n3
   exact⟨m',hm,σ3,H3,I3,w3⟩
  |cont=>
   obtain⟨σ3,H3,I3,n3⟩:=q3
   obtain⟨m',hm,w3⟩:=hN σ3 H3 n3
   exact⟨m',hm,σ3,H3,I3,w3⟩
  |brk=>exact q3
  |ret v=>exact q3
 |false=>
  rw[if_neg bB]
  exact wpAny_execs_nil ⟨σ1,H2,I2,q2⟩
end
structure It where
 go:Nat->Hp->Prop
 yld:Nat->Hp->V->Hp->Prop
 stop:Nat->Hp->Prop
noncomputable def adF(X:Cx)(pins:List (Addr×Obj))(H:Hp)(b:Addr):Prop:=
 H b=none/\b≠X.env.locals/\b∉X.fs/\(b∈X.ex∨X.s₀.heap.objs.size<=b)/\(∀x c,X.env.cells.lookup x=some c->c≠b)/\∀p∈X.pn++pins,p.1≠b
theorem Inv.fpOk{X:Cx}{pins:List (Addr×Obj)}{σ:St}{H H':Hp}{s:Shared}{b:Addr}(I:Inv X pins σ H s)(hb:s.heap.objs.size<=b)(hn:H' b=none):adF X pins H' b:=by
 refine⟨hn,Nat.ne_of_gt (a9 I.lt hb),I.nofs hb,.inr (bO I.sz hb),fun x c e z=>?_,fun p hp z=>?_⟩
 ·obtain⟨v,q⟩:=I.cell x c e
  exact absurd (a9 q.lt (by rw[z];exact hb)) (b8 _)
 ·exact absurd (a9 (aV (I.pin p hp).1) (by rw[z];exact hb)) (b8 _)
structure Turn(P:Program)(w:World)(K:FG)(tg:Expr)(J:It)(fp:List Addr)(it:Addr)(tn:Nat->Heap->Prop):Prop where
 mem:it∈fp
 obj:∀i h,tn i h->∀b∈fp,∃o,h.get? b=some o/\∀v,o.data≠ .cell v
 keep:∀i h h',tn i h->(∀b∈fp,∀o,h.get? b=some o->h'.get? b=some o)->tn i h'
 item:∀(X:Cx),X.prog=P->X.w=w->X.K=K->X.calm=true->∀(i:Nat) (pins:List (Addr×Obj)) (s:Shared) (σ:St) (H:Hp) (E:Value->Shared->Prop),Inv X pins σ H s->(∀b∈fp,adF X pins H b)->tn i s.heap->J.go i H->
  wpAny (model P w) X.A (pyNext (.ref it)) (fun r s1=>∃u,r=some u/\
   wpAny (model P w) X.A (letOwnedTupleGo tg (.ref it) u) (fun _ s2=>∃x H',Inv X pins σ H' s2/\RelV x u/\J.yld i H x H'/\tn (i+1) s2.heap/\∀b∈fp,H' b=none) E s1) E s
 done:∀(X:Cx),X.prog=P->X.w=w->X.K=K->X.calm=true->∀(i:Nat) (pins:List (Addr×Obj)) (s:Shared) (σ:St) (H:Hp) (E:Value->Shared->Prop),Inv X pins σ H s->(∀b∈fp,adF X pins H b)->tn i s.heap->J.stop i H->
  wpAny (model P w) X.A (pyNext (.ref it)) (fun r s1=>r=none/\Inv X pins σ H s1) E s
 self:∀(A:Around) (i:Nat) (s:Shared) (Q:Value->Shared->Prop) (E:Value->Shared->Prop),tn i s.heap->Q (.ref it) s->wpAny (model P w) A (pyIter (.ref it)) Q E s
noncomputable abbrev TI:=St->Hp->(It->Hp->Prop)->Prop
noncomputable def PIE(X:Cx)(pins:List (Addr×Obj))(σ:St)(tg:Expr)(R:It->Hp->Prop)(itv:Value)(s2:Shared):Prop:=
 ∃(it:Addr) (fp:List Addr) (tn:Nat->Heap->Prop) (J:It) (H':Hp),itv=.ref it/\Inv X pins σ H' s2/\Turn X.prog X.w X.K tg J fp it tn/\tn 0 s2.heap/\(∀b∈fp,adF X pins H' b)/\R J H'
noncomputable def PI(X:Cx)(tg iter:Expr)(wi:TI):Prop:=
 ∀(pins:List (Addr×Obj)) (s:Shared) (σ:St) (H:Hp) (R:It->Hp->Prop),Inv X pins σ H s->wi σ H R->
  wpAny (model X.prog X.w) X.A (eval iter X.env) (fun v s1=>wpAny (model X.prog X.w) X.A (pyIter v) (PIE X pins σ tg R) X.xe s1) X.xe s
theorem arC{M:Model}{A:Around}{E:Value->Shared->Prop}{s:Shared}{tg:Expr}{it:Addr}{u:Value}{o:Obj}{n:String}{vs:Array Value}{Q:Unit->Shared->Prop}(ho:s.heap.get? it=some o)(hc:o.cls=.type n)(hd:o.data=.fields vs)
  (hn:["enumerate","zip","dict_itemiterator","dict_reverseitemiterator","odict_iterator","itertools.zip_longest","itertools.pairwise"].contains n=false) (hQ:Q () s):wpAny M A (letOwnedTupleGo tg (.ref it) u) Q E s:=by
 unfold letOwnedTupleGo
 cases tg<;>first
  |exact eJ hQ
  |(cases u<;>first
    |exact eJ hQ
    |(refine dW (wpAny_load ho ?_)
      rw[hc,hd]
      show wpAny M A (if (["enumerate","zip","dict_itemiterator","dict_reverseitemiterator","odict_iterator","itertools.zip_longest","itertools.pairwise"].contains n&&vs[0]? ==some (rawInt _))=true then _ else _) Q E s
      rw[if_neg (by intro h;rw[hn,cW] at h;cases h)]
      exact eJ hQ))
noncomputable def Itl(K:FG)(a:Addr):It:=
 ⟨fun i H=>∃xs x,SqL K H a xs/\xs[i]? =some x,fun i H x H'=>H'=H/\∀xs,SqL K H a xs->xs[i]? =some x,fun i H=>∃xs,SqL K H a xs/\xs.length<=i⟩
noncomputable def Itt(K:FG)(a:Addr):It:=
 ⟨fun i H=>∃xs x,SqT K H a xs/\xs[i]? =some x,fun i H x H'=>H'=H/\∀xs,SqT K H a xs->xs[i]? =some x,fun i H=>∃xs,SqT K H a xs/\xs.length<=i⟩
noncomputable def Itr(lo:Int)(n:Nat):It:=⟨fun i _=>i<n,fun i H x H'=>H'=H/\x=.int (lo+i),fun i _=>n<=i⟩
theorem av7{P:Program}{w:World}{K:FG}{tg:Expr}(a it:Addr):Turn P w K tg (Itl K a) [it] it (fun i h=>h.IsListIter it a i) where
 mem:=by simp
 obj:=fun i h st b hb=>by
  have e:b=it:=by simpa using hb
  subst e
  obtain⟨o,e,c,d⟩:=st
  exact⟨o,e,fun v z=>by rw[d] at z;cases z⟩
 keep:=fun i h h' st k=>st.at fun o e=>k it (by simp) o e
 item:=by
  intro X hP hw hK hc i pins s σ H E I hf st hg
  subst hP hw hK
  obtain⟨xs,x,hq,hx⟩:=hg
  obtain⟨its,rv,p,hz⟩:=I.list hq
  obtain⟨u,hu,ru⟩:=rv.get hx
  obtain⟨f0,f1,f2,f3,f4,f5⟩:=hf it (by simp)
  refine wpAny_pyNext_list_item st p.isList (x:=u) (by simpa using hu) fun h' st' sb=>?_
  have I1:Inv X pins σ H {s with heap:=h'}:=I.turned (t':=s.toks) (fun b o hb e=>(sb.2 b hb).trans e) f0 f1 f3 f4 f5
  obtain⟨o,e,c,d⟩:=id st'
  exact⟨u,rfl,arC (s:={s with heap:=h'}) e c d (by decide) ⟨x,H,I1,ru,⟨rfl,fun ys hy=>by rw[I.list_inj hy hq];exact hx⟩,st',fun b hb=>(hf b hb).1⟩⟩
 done:=by
  intro X hP hw hK hc i pins s σ H E I hf st hg
  subst hP hw hK
  obtain⟨xs,hq,hx⟩:=hg
  obtain⟨its,rv,p,hz⟩:=I.list hq
  obtain⟨f0,f1,f2,f3,f4,f5⟩:=hf it (by simp)
  have hl:=rv.length
  exact wpAny_pyNext_list_end (I.ok.hd hc) st p.isList (by simp;omega) fun h' eb=>⟨rfl,I.turned (t':=s.toks) (fun b o hb e=>eb b o hb e) f0 f1 f3 f4 f5⟩
 self:=fun _ _ _ _ _ st h=>wpAny_pyIter_listiter st h
theorem atH{P:Program}{w:World}{K:FG}{tg:Expr}(a it:Addr):Turn P w K tg (Itt K a) [it] it (fun i h=>h.IsTupleIter it a i) where
 mem:=by simp
 obj:=fun i h st b hb=>by
  have e:b=it:=by simpa using hb
  subst e
  obtain⟨o,e,c,d⟩:=st
  exact⟨o,e,fun v z=>by rw[d] at z;cases z⟩
 keep:=fun i h h' st k=>st.at fun o e=>k it (by simp) o e
 item:=by
  intro X hP hw hK hc i pins s σ H E I hf st hg
  subst hP hw hK
  obtain⟨xs,x,hq,hx⟩:=hg
  obtain⟨its,rv,p,hz⟩:=I.tuple hq
  obtain⟨u,hu,ru⟩:=rv.get hx
  obtain⟨f0,f1,f2,f3,f4,f5⟩:=hf it (by simp)
  refine wpAny_pyNext_tuple_item st (show s.heap.IsTuple a its.toArray from p) (x:=u) (by simpa using hu) fun h' st' sb=>?_
  have I1:Inv X pins σ H {s with heap:=h'}:=I.turned (t':=s.toks) (fun b o hb e=>(sb.2 b hb).trans e) f0 f1 f3 f4 f5
  obtain⟨o,e,c,d⟩:=id st'
  exact⟨u,rfl,arC (s:={s with heap:=h'}) e c d (by decide) ⟨x,H,I1,ru,⟨rfl,fun ys hy=>by rw[I.tuple_inj hy hq];exact hx⟩,st',fun b hb=>(hf b hb).1⟩⟩
 done:=by
  intro X hP hw hK hc i pins s σ H E I hf st hg
  subst hP hw hK
  obtain⟨xs,hq,hx⟩:=hg
  obtain⟨its,rv,p,hz⟩:=I.tuple hq
  obtain⟨f0,f1,f2,f3,f4,f5⟩:=hf it (by simp)
  have hl:=rv.length
  exact wpAny_pyNext_tuple_end (I.ok.hd hc) st (show s.heap.IsTuple a its.toArray from p) (by simp;omega) fun h' eb=>⟨rfl,I.turned (t':=s.toks) (fun b o hb e=>eb b o hb e) f0 f1 f3 f4 f5⟩
 self:=fun _ _ _ _ _ st h=>wpAny_pyIter_tupleiter st h
theorem at8{P:Program}{w:World}{K:FG}{tg:Expr}(it:Addr)(lo:Int)(n:Nat):Turn P w K tg (Itr lo n) [it] it (fun i h=>IsRangeIter h it (lo+(i:Nat)*1) ((n:Int)-(i:Nat)) 1) where
 mem:=by simp
 obj:=fun i h st b hb=>by
  have e:b=it:=by simpa using hb
  subst e
  exact⟨_,st,fun v z=>by
   have z':Data.fields _=Data.cell v:=z
   cases z'⟩
 keep:=fun i h h' st k=>k it (by simp) _ st
 item:=by
  intro X hP hw hK hc i pins s σ H E I hf st hg
  subst hP hw hK
  obtain⟨f0,f1,f2,f3,f4,f5⟩:=hf it (by simp)
  have W:=Walks.range (prog:=X.prog) (w:=X.w) (I.ok.hd hc) it lo 1 n
  refine W.item i s _ _ hg st fun v h' tk hv st' kk=>?_
  obtain⟨t,rfl⟩:=hv
  have I1:Inv X pins σ H {s with heap:=h',toks:=tk}:=I.turned (fun b o hb e=>kk b o (by simpa using hb) e) f0 f1 f3 f4 f5
  refine⟨_,rfl,arC (s:={s with heap:=h',toks:=tk}) (n:="range_iterator") st' rfl rfl (by decide) ⟨.int (lo+i),H,I1,⟨t,?_⟩,⟨rfl,rfl⟩,st',fun b hb=>(hf b hb).1⟩⟩
  rw[Int.mul_one]
 done:=by
  intro X hP hw hK hc i pins s σ H E I hf st hg
  subst hP hw hK
  obtain⟨f0,f1,f2,f3,f4,f5⟩:=hf it (by simp)
  exact wpAny_pyNext_range_end (I.ok.hd hc) st (by have:n<=i:=hg;omega) fun h' eb=>⟨rfl,I.turned (t':=s.toks) (fun b o hb e=>eb b o hb e) f0 f1 f3 f4 f5⟩
 self:=fun _ _ _ _ _ st h=>wpAny_pyIter_rangeiter st h
section
variable{X:Cx}{tg:Expr}
noncomputable def aDK(K:FG)(tl:TE):TI:=fun σ H R=>tl σ H fun x H1=>∃a,x=.ref a/\(∃xs,SqL K H1 a xs)/\R (Itl K a) H1
noncomputable def aIK(K:FG)(tl:TE):TI:=fun σ H R=>tl σ H fun x H1=>∃a,x=.ref a/\(∃xs,SqT K H1 a xs)/\R (Itt K a) H1
theorem aBR{l:Expr}{tl:TE}(hl:PE X l tl):PI X tg l (aDK X.K tl):=by
 intro pins s σ H R I h
 refine thn (hl pins s σ H _ I h) fun v s1 ⟨x,H1,I1,r1,q1⟩=>?_
 obtain⟨a,e,⟨xs,hq⟩,q⟩:=q1
 subst e
 cases r1
 obtain⟨its,rv,p,hz⟩:=I1.list hq
 refine wpAny_pyIter_list p.isList ?_
 refine⟨s1.heap.objs.size,[s1.heap.objs.size],_,_,H1,rfl,I1.kept (t':=s1.toks) fun b o e=>aW _ e,av7 a _,⟨_,bD _ rfl,rfl,rfl⟩,fun b hb=>?_,q⟩
 have e:b=s1.heap.objs.size:=by simpa using hb
 subst e
 exact I1.fpOk (aS _) (I1.hok.fresh (aS _))
theorem aEQ{l:Expr}{tl:TE}(hl:PE X l tl):PI X tg l (aIK X.K tl):=by
 intro pins s σ H R I h
 refine thn (hl pins s σ H _ I h) fun v s1 ⟨x,H1,I1,r1,q1⟩=>?_
 obtain⟨a,e,⟨xs,hq⟩,q⟩:=q1
 subst e
 cases r1
 obtain⟨its,rv,p,hz⟩:=I1.tuple hq
 refine wpAny_pyIter_tuple (show s1.heap.IsTuple a its.toArray from p) ?_
 refine⟨s1.heap.objs.size,[s1.heap.objs.size],_,_,H1,rfl,I1.kept (t':=s1.toks) fun b o e=>aW _ e,atH a _,⟨_,bD _ rfl,rfl,rfl⟩,fun b hb=>?_,q⟩
 have e:b=s1.heap.objs.size:=by simpa using hb
 subst e
 exact I1.fpOk (aS _) (I1.hok.fresh (aS _))
theorem aq0{pins:List (Addr×Obj)}{σ:St}{H:Hp}{s:Shared}{R:It->Hp->Prop}{E:Value->Shared->Prop}{lo hi:Int}{t u v:Tok}{tk:Nat}(I:Inv X pins σ H s)(h1: -(2^62)<=lo)(h2:lo<2^62)(h3: -(2^62)<=hi)(h4:hi<2^62)
  (q:R (Itr lo (hi-lo).toNat) H):wpAny (model X.prog X.w) X.A (pyIter (.ref s.heap.objs.size)) (PIE X pins σ tg R) E {s with heap:=s.heap.push {cls:=.type "range",data:=.fields #[.int lo t,.int hi u,.int 1 v]},toks:=tk}:=by
 refine wpAny_pyIter_range (IsRange.new ..) (small_one h1 h2 h3 h4) ?_
 have I1:Inv X pins σ H {s with heap:=s.heap.push {cls:=.type "range",data:=.fields #[.int lo t,.int hi u,.int 1 v]},toks:=tk}:=I.kept fun b o e=>aW _ e
 refine⟨(s.heap.push {cls:=.type "range",data:=.fields #[.int lo t,.int hi u,.int 1 v]}).objs.size,[(s.heap.push {cls:=.type "range",data:=.fields #[.int lo t,.int hi u,.int 1 v]}).objs.size],_,_,H,rfl,
  I1.kept (t':=tk) fun b o e=>aW _ e,at8 _ lo (hi-lo).toNat,?_,fun b hb=>?_,q⟩
 ·have e1:lo+((0:Nat):Int)*1=lo:=by simp
  have e2:(((hi-lo).toNat:Nat):Int)-((0:Nat):Int)=Builtin.Range.rangeSize lo hi 1:=by rw[rangeSize_one];split<;>omega
  show IsRangeIter _ _ (lo+((0:Nat):Int)*1) ((((hi-lo).toNat:Nat):Int)-((0:Nat):Int)) 1
  rw[e1,e2]
  exact bD _ rfl
 ·have e:b=(s.heap.push {cls:=.type "range",data:=.fields #[.int lo t,.int hi u,.int 1 v]}).objs.size:=by simpa using hb
  subst e
  exact I1.fpOk (aS _) (I1.hok.fresh (aS _))
noncomputable def aDB(ta:TA):TI:=fun σ H R=>ta σ H fun vs H1=>∃j:Int,vs=[.int j]/\ -(2^62)<=j/\j<2^62/\R (Itr 0 j.toNat) H1
noncomputable def aC9(ta:TA):TI:=fun σ H R=>ta σ H fun vs H1=>∃i j:Int,vs=[.int i,.int j]/\(-(2^62)<=i/\i<2^62/\ -(2^62)<=j/\j<2^62)/\R (Itr i (j-i).toNat) H1
theorem awB{a:Expr}{ta:TA}{p pos:Pos}(hg:Gl X "range")(hm:X.mg "range"=none)(ha:PA X [a] ta)(hs:starEach [a] X.env=[(false,eval a X.env)]:=by rfl):PI X tg (.Call (.Name "range" p) [a] [] pos) (aDB ta):=by
 intro pins s σ H R I h
 refine Call_ (ahA I hg hm boot_range (PyProof.Rows.callWith_type1 (thn (ha pos pins s σ H _ I h) fun us s1 ⟨vs,H1,I1,r1,q1⟩=>?_) hs rfl))
 obtain⟨j,e,q1,q2,q⟩:=q1
 subst e
 cases r1 with
 |cons r rr=>
  cases rr
  obtain⟨t,rfl⟩:=r
  exact call_range_1 (aq0 I1 (by omega) (by omega) q1 q2 (by simpa using q))
theorem awD{a b:Expr}{ta:TA}{p pos:Pos}(hg:Gl X "range")(hm:X.mg "range"=none)(ha:PA X [a,b] ta)(hs:starEach [a,b] X.env=[(false,eval a X.env),(false,eval b X.env)]:=by rfl)(hs2:starEach [b] X.env=[(false,eval b X.env)]:=by rfl):
  PI X tg (.Call (.Name "range" p) [a,b] [] pos) (aC9 ta):=by
 intro pins s σ H R I h
 refine Call_ (ahA I hg hm boot_range (PyProof.Rows.callWith_type1 (thn (ha pos pins s σ H _ I h) fun us s1 ⟨vs,H1,I1,r1,q1⟩=>?_) (by rw[hs,hs2]) (by rw[hs2];rfl)))
 obtain⟨i,j,e,⟨q1,q2,q3,q4⟩,q⟩:=q1
 subst e
 cases r1 with
 |cons r rr=>
  cases rr with
  |cons r' rr=>
   cases rr
   obtain⟨t,rfl⟩:=r
   obtain⟨t',rfl⟩:=r'
   exact call_range_2 (aq0 I1 q1 q2 q3 q4 q)
noncomputable def aOP(wi:TI)(g:TG)(tb:TS):TS:=fun D σ H=>wi σ H fun J H1=>∃W:Nat->Nat->St->Hp->Prop,(∃m,W 0 m σ H1)/\∀i m σ H,W i m σ H->
 (J.stop i H/\D.nx σ H)∨(J.go i H/\∃N:St->Hp->Prop,(∀σ' H',N σ' H'->∃m',m'<m/\W (i+1) m' σ' H')/\∀x H',J.yld i H x H'->g x σ H' fun σ2 H2=>tb {D with nx:=N,ct:=N,bk:=D.nx} σ2 H2)
noncomputable def afW(fp:List Addr)(h:Heap):List (Addr×Obj):=fp.filterMap fun b=>(h.get? b).map fun o=>(b,o)
theorem ab2{fp:List Addr}{h:Heap}{b:Addr}{o:Obj}(hb:b∈fp)(e:h.get? b=some o):(b,o)∈afW fp h:=List.mem_filterMap.mpr ⟨b,hb,by rw[e];rfl⟩
theorem aw2{fp:List Addr}{h:Heap}{p:Addr×Obj}(hp:p∈afW fp h):p.1∈fp/\h.get? p.1=some p.2:=by
 obtain⟨b,hb,e⟩:=List.mem_filterMap.mp hp
 cases q:h.get? b with
 |none=>rw[q] at e;cases e
 |some o=>
  rw[q] at e
  have e':(b,o)=p:=a8 e
  subst e'
  exact⟨hb,q⟩
theorem Inv.pinned{pins:List (Addr×Obj)}{σ:St}{H:Hp}{s:Shared}{fp:List Addr}(I:Inv X pins σ H s)(hf:∀b∈fp,adF X pins H b)(ho:∀b∈fp,∃o,s.heap.get? b=some o/\∀v,o.data≠ .cell v):Inv X (pins++afW fp s.heap) σ H s:=
 I.pins_of fun p hp=>(bV.mp hp).elim (fun z=>I.pin p (bY _ z)) fun z=>by
  obtain⟨hb,e⟩:=aw2 z
  obtain⟨f0,f1,f2,_⟩:=hf p.1 hb
  obtain⟨o,e',d⟩:=ho p.1 hb
  rw[e] at e';cases e'
  exact⟨e,f0,f1,f2,d⟩
theorem Inv.unpinned{pins pl:List (Addr×Obj)}{σ:St}{H:Hp}{s:Shared}(I:Inv X (pins++pl) σ H s):Inv X pins σ H s:=I.pins_of fun p hp=>I.pin p (bY _ (List.mem_append_left _ hp))
theorem aFH{iter:Expr}{body:List Stmt}{wi:TI}{g:TG}{tb:TS}{pos:Pos}(hp:PassesOwn (model X.prog X.w) X.A X.env X.xe)(hc:X.calm=true)(hi:PI X tg iter wi)(hg:PG X tg g)(hb:PSs X body tb)
  (hs:∀x,foldedSetIterable iter X.env x=pure x:=by intro _;rfl):PS X (.For tg iter body [] pos) (aOP wi g tb):=by
 intro pins s σ H D I h
 refine wpAny_For (thn (hi pins s σ H _ I h) fun v s1 h1=>thn h1 fun itv s2 h2=>?_) hs
 obtain⟨it,fp,tn,J,H2,e,I2,T,st2,f2,W,⟨m0,w0⟩,turn⟩:=h2
 subst e
 -- what stays true of the iterator's objects through the loop
 have stat:∀{H':Hp},(∀b∈fp,H' b=none)->∀b∈fp,adF X pins H' b:=fun hn b hb=>⟨hn b hb,(f2 b hb).2⟩
 refine codeAny_forLoop_any (fun n s'=>∃i σ' H',Inv X pins σ' H' s'/\tn i s'.heap/\(∀b∈fp,H' b=none)/\W i n σ' H') ?_ m0 ⟨0,σ,H2,I2,st2,fun b hb=>(f2 b hb).1,w0⟩
 rintro n s3 ⟨i,σ3,H3,I3,st3,fr3,w3⟩
 rcases turn i n σ3 H3 w3 with ⟨stop,qn⟩ | ⟨go,N,hN,step⟩
 ·refine dR hp (thn (T.done X rfl rfl rfl hc i pins s3 σ3 H3 X.xe I3 (stat fr3) st3 stop) fun r s4 ⟨hr,I4⟩=>?_)
  subst hr
  exact wpAny_execs_nil ⟨σ3,H3,I4,qn⟩
 ·refine dR hp (thn (T.item X rfl rfl rfl hc i pins s3 σ3 H3 X.xe I3 (stat fr3) st3 go) fun r s4 ⟨u,hr,h4⟩=>?_)
  subst hr
  refine dR hp (thn h4 fun _ s5 ⟨x,H5,I5,r5,y5,st5,fr5⟩=>?_)
  have I5':=I5.pinned (stat fr5) (T.obj _ _ st5)
  refine dR hp (thn (hg _ s5 σ3 H5 x u _ I5' r5 (step x H5 y5)) fun _ s6 ⟨σ6,H6,I6,q6⟩=>?_)
  refine dR hp (thn (hb _ s6 σ6 H6 _ I6 q6) fun f s7 q7=>?_)
  have again:∀{σ7:St} {H7:Hp},Inv X (pins++afW fp s5.heap) σ7 H7 s7->N σ7 H7->∃m,m<n/\∃i σ' H',Inv X pins σ' H' s7/\tn i s7.heap/\(∀b∈fp,H' b=none)/\W i m σ' H':=fun {σ7 H7} I7 n7=>by
   obtain⟨m',hm,w7⟩:=hN σ7 H7 n7
   refine⟨m',hm,i+1,σ7,H7,I7.unpinned,T.keep _ _ _ st5 fun b hb o e=>(I7.pin (b,o) (bY _ (bY _ (ab2 hb e)))).1,fun b hb=>?_,w7⟩
   obtain⟨o,e,d⟩:=T.obj _ _ st5 b hb
   exact (I7.pin (b,o) (bY _ (bY _ (ab2 hb e)))).2.1
  cases f with
  |next=>obtain⟨σ7,H7,I7,n7⟩:=q7;exact again I7 n7
  |cont=>obtain⟨σ7,H7,I7,n7⟩:=q7;exact again I7 n7
  |brk=>obtain⟨σ7,H7,I7,q7⟩:=q7;exact⟨σ7,H7,I7.unpinned,q7⟩
  |ret v=>obtain⟨x7,σ7,H7,I7,r7,q7⟩:=q7;exact⟨x7,σ7,H7,I7.unpinned,r7,q7⟩
end
theorem abX{K:FG}{a:Addr}{xs:List V}{g:TG}{tb:TS}{D:Ends}{σ:St}{H:Hp}(Pv:Nat->St->Hp->Prop)(h0:Pv 0 σ H)(hl:∀i σ H,i<=xs.length->Pv i σ H->SqL K H a xs)
  (hs:∀i x σ H,xs[i]? =some x->Pv i σ H->g x σ H fun σ2 H2=>tb {D with nx:=Pv (i+1),ct:=Pv (i+1),bk:=D.nx} σ2 H2) (hd:∀σ H,Pv xs.length σ H->D.nx σ H):
  ∃W:Nat->Nat->St->Hp->Prop,(∃m,W 0 m σ H)/\∀i m σ H,W i m σ H->
   ((Itl K a).stop i H/\D.nx σ H)∨((Itl K a).go i H/\∃N:St->Hp->Prop,(∀σ' H',N σ' H'->∃m',m'<m/\W (i+1) m' σ' H')/\∀x H',(Itl K a).yld i H x H'->g x σ H' fun σ2 H2=>tb {D with nx:=N,ct:=N,bk:=D.nx} σ2 H2):=by
 refine⟨fun i m σ H=>m=xs.length-i/\i<=xs.length/\Pv i σ H,⟨xs.length,by simp,bK _,h0⟩,?_⟩
 rintro i m σ H ⟨rfl,hi,p⟩
 have q:=hl i σ H hi p
 by_cases hlt:i<xs.length
 ·refine .inr ⟨⟨xs,xs[i],q,by simp[hlt]⟩,Pv (i+1),fun σ' H' p'=>⟨xs.length-(i+1),by omega,rfl,hlt,p'⟩,fun x H' y=>?_⟩
  obtain⟨e,y⟩:=y
  subst e
  exact hs i x σ _ (y xs q) p
 ·have e:i=xs.length:=by omega
  subst e
  exact .inl ⟨⟨xs,q,aS _⟩,hd σ H p⟩
theorem anP{K:FG}{a:Addr}{xs:List V}{g:TG}{tb:TS}{D:Ends}{σ:St}{H:Hp}(Pv:Nat->St->Hp->Prop)(h0:Pv 0 σ H)(hl:∀i σ H,i<=xs.length->Pv i σ H->SqT K H a xs)
  (hs:∀i x σ H,xs[i]? =some x->Pv i σ H->g x σ H fun σ2 H2=>tb {D with nx:=Pv (i+1),ct:=Pv (i+1),bk:=D.nx} σ2 H2) (hd:∀σ H,Pv xs.length σ H->D.nx σ H):
  ∃W:Nat->Nat->St->Hp->Prop,(∃m,W 0 m σ H)/\∀i m σ H,W i m σ H->
   ((Itt K a).stop i H/\D.nx σ H)∨((Itt K a).go i H/\∃N:St->Hp->Prop,(∀σ' H',N σ' H'->∃m',m'<m/\W (i+1) m' σ' H')/\∀x H',(Itt K a).yld i H x H'->g x σ H' fun σ2 H2=>tb {D with nx:=N,ct:=N,bk:=D.nx} σ2 H2):=by
 refine⟨fun i m σ H=>m=xs.length-i/\i<=xs.length/\Pv i σ H,⟨xs.length,by simp,bK _,h0⟩,?_⟩
 rintro i m σ H ⟨rfl,hi,p⟩
 have q:=hl i σ H hi p
 by_cases hlt:i<xs.length
 ·refine .inr ⟨⟨xs,xs[i],q,by simp[hlt]⟩,Pv (i+1),fun σ' H' p'=>⟨xs.length-(i+1),by omega,rfl,hlt,p'⟩,fun x H' y=>?_⟩
  obtain⟨e,y⟩:=y
  subst e
  exact hs i x σ _ (y xs q) p
 ·have e:i=xs.length:=by omega
  subst e
  exact .inl ⟨⟨xs,q,aS _⟩,hd σ H p⟩
theorem abS{lo:Int}{n:Nat}{g:TG}{tb:TS}{D:Ends}{σ:St}{H:Hp}(Pv:Nat->St->Hp->Prop)(h0:Pv 0 σ H)
  (hs:∀i σ H,i<n->Pv i σ H->g (.int (lo+i)) σ H fun σ2 H2=>tb {D with nx:=Pv (i+1),ct:=Pv (i+1),bk:=D.nx} σ2 H2) (hd:∀σ H,Pv n σ H->D.nx σ H):
  ∃W:Nat->Nat->St->Hp->Prop,(∃m,W 0 m σ H)/\∀i m σ H,W i m σ H->
   ((Itr lo n).stop i H/\D.nx σ H)∨((Itr lo n).go i H/\∃N:St->Hp->Prop,(∀σ' H',N σ' H'->∃m',m'<m/\W (i+1) m' σ' H')/\∀x H',(Itr lo n).yld i H x H'->g x σ H' fun σ2 H2=>tb {D with nx:=N,ct:=N,bk:=D.nx} σ2 H2):=by
 refine⟨fun i m σ H=>m=n-i/\i<=n/\Pv i σ H,⟨n,by simp,bK _,h0⟩,?_⟩
 rintro i m σ H ⟨rfl,hi,p⟩
 by_cases hlt:i<n
 ·refine .inr ⟨hlt,Pv (i+1),fun σ' H' p'=>⟨n-(i+1),by omega,rfl,hlt,p'⟩,fun x H' y=>?_⟩
  obtain⟨e,y⟩:=y
  subst e y
  exact hs i σ _ hlt p
 ·have e:i=n:=by omega
  subst e
  exact .inl ⟨aS _,hd σ H p⟩
noncomputable abbrev R2:=V->V->Hp->VK->Prop
noncomputable def OpR(X:Cx)(f:Value->Value->Sem Value)(r:R2):Prop:=
 ∀(pins:List (Addr×Obj)) (s:Shared) (σ:St) (H:Hp) (x y:V) (v u:Value) (Q:VK),Inv X pins σ H s->RelV x v->RelV y u->r x y H Q->
  wpAny (model X.prog X.w) X.A (f v u) (EP X pins σ Q) X.xe s
noncomputable def UnR(X:Cx)(f:Value->Sem Value)(r:V->Hp->VK->Prop):Prop:=
 ∀(pins:List (Addr×Obj)) (s:Shared) (σ:St) (H:Hp) (x:V) (v:Value) (Q:VK),Inv X pins σ H s->RelV x v->r x H Q->
  wpAny (model X.prog X.w) X.A (f v) (EP X pins σ Q) X.xe s
noncomputable def adP(X:Cx)(f:Value)(r:List V->Hp->VK->Prop):Prop:=
 ∀(pins:List (Addr×Obj)) (s:Shared) (σ:St) (H:Hp) (xs:List V) (us:List Value) (Q:VK),Inv X pins σ H s->Vals xs us->r xs H Q->
  wpAny (model X.prog X.w) X.A (call f us) (EP X pins σ Q) X.xe s
noncomputable def tOp(r:R2)(ta tb:TE):TE:=fun σ H Q=>ta σ H fun x H1=>tb σ H1 fun y H2=>r x y H2 Q
noncomputable def tUn(r:V->Hp->VK->Prop)(ta:TE):TE:=fun σ H Q=>ta σ H fun x H1=>r x H1 Q
noncomputable def rI(C:Int->Int->Prop)(g:Int->Int->V):R2:=fun x y H Q=>∃i j,x=.int i/\y=.int j/\C i j/\Q (g i j) H
noncomputable def rI0(g:Int->Int->V):R2:=fun x y H Q=>∃i j,x=.int i/\y=.int j/\Q (g i j) H
noncomputable def rU(g:Int->V):V->Hp->VK->Prop:=fun x H Q=>∃i,x=.int i/\Q (g i) H
section
variable{X:Cx}{a b c:Expr}{ta tb tc:TE}{pos:Pos}
theorem aFS(ha:PE X a ta)(hb:PE X b tb){pins:List (Addr×Obj)}{s:Shared}{σ:St}{H:Hp}{R:V->V->Hp->Prop}(I:Inv X pins σ H s)
  (h:ta σ H fun x H1=>tb σ H1 fun y H2=>R x y H2) {Q:Value->Shared->Prop} {f:Value->Value->Sem Value}
  (hf:∀v u s2 x y H2,Inv X pins σ H2 s2->RelV x v->RelV y u->R x y H2->wpAny (model X.prog X.w) X.A (f v u) Q X.xe s2):
  wpAny (model X.prog X.w) X.A (eval a X.env) (fun v s₁=>wpAny (model X.prog X.w) X.A (eval b X.env) (fun u s₂=>wpAny (model X.prog X.w) X.A (f v u) Q X.xe s₂) X.xe s₁) X.xe s:=by
 refine thn (ha pins s σ H _ I h) fun v s1 ⟨x,H1,I1,r1,q1⟩=>?_
 refine thn (hb pins s1 σ H1 _ I1 q1) fun u s2 ⟨y,H2,I2,r2,q2⟩=>?_
 exact hf v u s2 x y H2 I2 r1 r2 q2
theorem aJY{op:Operator}{r:R2}(ho:OpR X (binaryOp op) r)(ha:PE X a ta)(hb:PE X b tb):PE X (.BinOp a op b pos) (tOp r ta tb):=by
 intro pins s σ H Q I h
 exact wpAny_BinOp (aFS ha hb I h fun v u s2 x y H2 I2 rx ry q=>ho pins s2 σ H2 x y v u Q I2 rx ry q)
theorem aM4{op:UnaryOp}{r:V->Hp->VK->Prop}(ho:UnR X (unaryOp op) r)(ha:PE X a ta):PE X (.UnaryOp op a pos) (tUn r ta):=by
 intro pins s σ H Q I h
 exact UnaryOp_ (thn (ha pins s σ H _ I h) fun v s1 ⟨x,H1,I1,r1,q1⟩=>ho pins s1 σ H1 x v Q I1 r1 q1)
theorem opI{f:Value->Value->Sem Value}{C:Int->Int->Prop}{g:Int->Int->Int}
  (rule:∀(i j:Int) (t u:Tok) (s:Shared) (Q:Value->Shared->Prop) (E:Value->Shared->Prop),C i j->Q (.int (g i j) s.toks) {s with toks:=s.toks+1}->wpAny (model X.prog X.w) X.A (f (.int i t) (.int j u)) Q E s):
  OpR X f (rI C fun i j=>.int (g i j)):=by
 intro pins s σ H x y v u Q I rx ry h
 obtain⟨i,j,rfl,rfl,hc,q⟩:=h
 obtain⟨t,rfl⟩:=rx
 obtain⟨t',rfl⟩:=ry
 exact rule i j t t' s _ _ hc ⟨.int (g i j),H,I.tok _,⟨_,rfl⟩,q⟩
theorem aA5{f:Value->Value->Sem Value}{g:Int->Int->Int}
  (rule:∀(i j:Int) (t u:Tok) (s:Shared) (Q:Value->Shared->Prop) (E:Value->Shared->Prop),Q (.int (g i j) s.toks) {s with toks:=s.toks+1}->wpAny (model X.prog X.w) X.A (f (.int i t) (.int j u)) Q E s):
  OpR X f (rI0 fun i j=>.int (g i j)):=by
 intro pins s σ H x y v u Q I rx ry h
 obtain⟨i,j,rfl,rfl,q⟩:=h
 obtain⟨t,rfl⟩:=rx
 obtain⟨t',rfl⟩:=ry
 exact rule i j t t' s _ _ ⟨.int (g i j),H,I.tok _,⟨_,rfl⟩,q⟩
theorem aCR{f:Value->Value->Sem Value}{g:Int->Int->Bool}
  (rule:∀(i j:Int) (t u:Tok) (s:Shared) (Q:Value->Shared->Prop) (E:Value->Shared->Prop),Q (.bool (g i j)) s->wpAny (model X.prog X.w) X.A (f (.int i t) (.int j u)) Q E s):
  OpR X f (rI0 fun i j=>.bl (g i j)):=by
 intro pins s σ H x y v u Q I rx ry h
 obtain⟨i,j,rfl,rfl,q⟩:=h
 obtain⟨t,rfl⟩:=rx
 obtain⟨t',rfl⟩:=ry
 exact rule i j t t' s _ _ ⟨.bl (g i j),H,I,rfl,q⟩
noncomputable def aQS(i j:Int):Prop:=0<j/\j<1073741824
noncomputable def aBQ(i j:Int):Prop:=0<=j/\j<=1000000/\i.natAbs<2^64
noncomputable def CMul(i j:Int):Prop:=(-(2^64)<i/\i<2^64)∨(-(2^64)<j/\j<2^64)
theorem CMul.ok{i j:Int}(h:CMul i j):IntMulOk i j:=by
 rcases h with ⟨h1,h2⟩ | ⟨h1,h2⟩
 ·exact .of_left (intBits_le_64 h1 h2)
 ·exact .of_right (intBits_le_64 h1 h2)
theorem asK(k:Nat):(0:Int)<=2^k:=by
 rw[two_pow_cast]
 exact dA _
theorem aF8:OpR X (binaryOp .Add) (rI0 fun i j=>.int (i+j)):=aA5 fun _ _ _ _ _ _ _ q=>add_int q
theorem aD7:OpR X (binaryOp .Sub) (rI0 fun i j=>.int (i-j)):=aA5 fun _ _ _ _ _ _ _ q=>sub_int q
theorem aFU:OpR X (binaryOp .Mult) (rI CMul fun i j=>.int (i*j)):=opI fun _ _ _ _ _ _ _ hc q=>mul_int q hc.ok
theorem aCQ:OpR X (binaryOp .FloorDiv) (rI aQS fun i j=>.int (i / j)):=opI fun i j _ _ _ _ _ hc q=>by
 have h1:(0:Int)<j:=hc.1
 have h2:j<1073741824:=hc.2
 exact floordiv_int (by omega) (by rw[Int.fdiv_eq_ediv_of_nonneg i (by omega)];exact q) (.inl (PyProof.noPylong_small (by omega)))
theorem aET:OpR X (binaryOp .Mod) (rI (fun _ j=>0<j) fun i j=>.int (i%j)):=opI fun i j _ _ _ _ _ hc q=>by
 have h1:(0:Int)<j:=hc
 exact mod_int' (by omega) (by rw[Int.fmod_eq_emod_of_nonneg i (by omega)];exact q)
theorem aGM:OpR X (binaryOp .Pow) (rI aBQ fun i j=>.int (i^j.toNat)):=opI fun _ _ _ _ _ _ _ hc q=>pow_int_small hc.1 hc.2.1 hc.2.2 q
theorem aEI:OpR X (binaryOp .LShift) (rI aBQ fun i j=>.int (i*2^j.toNat)):=opI fun _ _ _ _ _ _ _ hc q=>lshift_int_small hc.1 hc.2.1 hc.2.2 q
theorem aF3:OpR X (binaryOp .RShift) (rI (fun _ j=>0<=j) fun i j=>.int (i / 2^j.toNat)):=opI fun i j _ _ _ _ _ hc q=>
 rshift_int hc (by rw[Int.fdiv_eq_ediv_of_nonneg i (asK _)];exact q)
theorem aFW:OpR X (binaryOp .BitAnd) (rI0 fun i j=>.int (Builtin.bitAnd i j)):=aA5 fun _ _ _ _ _ _ _ q=>and_int q
theorem aK9:OpR X (binaryOp .BitOr) (rI0 fun i j=>.int (Builtin.bitOr i j)):=aA5 fun _ _ _ _ _ _ _ q=>or_int q
theorem unI{f:Value->Sem Value}{g:Int->Int}
  (rule:∀(i:Int) (t:Tok) (s:Shared) (Q:Value->Shared->Prop) (E:Value->Shared->Prop),Q (.int (g i) s.toks) {s with toks:=s.toks+1}->wpAny (model X.prog X.w) X.A (f (.int i t)) Q E s):
  UnR X f (rU fun i=>.int (g i)):=by
 intro pins s σ H x v Q I rx h
 obtain⟨i,rfl,q⟩:=h
 obtain⟨t,rfl⟩:=rx
 exact rule i t s _ _ ⟨.int (g i),H,I.tok _,⟨_,rfl⟩,q⟩
theorem aF9:UnR X (unaryOp .USub) (rU fun i=>.int (-i)):=unI fun _ _ _ _ _ q=>neg_int q
end
noncomputable def aMO:V->V->Bool
 |.non,.non=>true | .non,.int _=>true | .int _,.non=>true | .non,.bl _=>true | .bl _,.non=>true | .non,.str _=>true | .str _,.non=>true
 |.int _,.int _=>true | .bl _,.bl _=>true | .str _,.str _=>true | .byt _,.byt _=>true
 |.int _,.str _=>true | .str _,.int _=>true | .bl _,.str _=>true | .str _,.bl _=>true
 |_,_=>false
noncomputable def rEq:R2:=fun x y H Q=>aMO x y=true/\Q (.bl (decide (x=y))) H
noncomputable def rNe:R2:=fun x y H Q=>aMO x y=true/\Q (.bl (!decide (x=y))) H
theorem aeV{i j:Int}:decide (V.int i=V.int j)=(i==j):=by
 rw[cG]
 simp
theorem azO{i j:Bool}:decide (V.bl i=V.bl j)=(i==j):=by
 rw[cG]
 simp
theorem auK{i j:Str}:decide (V.str i=V.str j)=(i==j):=by
 rw[cG]
 simp
theorem auP{i j:Array UInt8}:decide (V.byt i=V.byt j)=(i.toList==j.toList):=by
 rw[cG]
 cases i
 cases j
 simp
section
variable{X:Cx}{a b c:Expr}{ta tb tc:TE}{pos:Pos}
theorem aaS{pins:List (Addr×Obj)}{σ:St}{H:Hp}{s:Shared}{Q:VK}{k k':Bool}(I:Inv X pins σ H s)(q:Q (.bl k) H)(e:k=k'):EP X pins σ Q (.bool k') s:=by
 subst e
 exact⟨.bl k,H,I,rfl,q⟩
theorem aQA:OpR X (compareOp .Eq) rEq:=by
 intro pins s σ H x y v u Q I rx ry h
 obtain⟨hs,q⟩:=h
 cases x with
 |non=>
  cases rx
  cases y with
  |non=>cases ry;exact PySem.EqNone.eq_none_none (aaS I q (by simp))
  |bl j=>cases ry;exact PySem.EqNone.eq_none_bool (aaS I q (by simp))
  |int j=>obtain⟨t',rfl⟩:=ry;exact PySem.EqNone.eq_none_int (aaS I q (by simp))
  |str j=>obtain⟨t',rfl⟩:=ry;exact PySem.EqNone.eq_none_str (aaS I q (by simp))
  |_=>exact absurd (show false=true from hs) bB
 |bl i=>
  cases rx
  cases y with
  |non=>cases ry;exact PySem.EqNone.eq_bool_none (aaS I q (by simp))
  |bl j=>cases ry;exact eq_bool (aaS I q azO)
  |str j=>obtain⟨t',rfl⟩:=ry;exact PySem.EqMixed.eq_bool_str (aaS I q (by simp))
  |_=>exact absurd (show false=true from hs) bB
 |int i=>
  obtain⟨t,rfl⟩:=rx
  cases y with
  |non=>cases ry;exact PySem.EqNone.eq_int_none (aaS I q (by simp))
  |int j=>obtain⟨t',rfl⟩:=ry;exact eq_int (aaS I q aeV)
  |str j=>obtain⟨t',rfl⟩:=ry;exact PySem.EqMixed.eq_int_str (aaS I q (by simp))
  |_=>exact absurd (show false=true from hs) bB
 |str i=>
  obtain⟨t,rfl⟩:=rx
  cases y with
  |non=>cases ry;exact PySem.EqNone.eq_str_none (aaS I q (by simp))
  |bl j=>cases ry;exact PySem.EqMixed.eq_str_bool (aaS I q (by simp))
  |int j=>obtain⟨t',rfl⟩:=ry;exact PySem.EqMixed.eq_str_int (aaS I q (by simp))
  |str j=>obtain⟨t',rfl⟩:=ry;exact eq_str (aaS I q auK)
  |_=>exact absurd (show false=true from hs) bB
 |byt i=>
  obtain⟨t,rfl⟩:=rx
  cases y with
  |byt j=>obtain⟨t',rfl⟩:=ry;exact PySem.W.eq_bytes (aaS I q auP)
  |_=>exact absurd (show false=true from hs) bB
 |_=>cases y<;>exact absurd (show false=true from hs) bB
theorem aJX:OpR X (compareOp .NotEq) rNe:=by
 intro pins s σ H x y v u Q I rx ry h
 obtain⟨hs,q⟩:=h
 cases x with
 |non=>
  cases rx
  cases y with
  |non=>cases ry;exact PySem.EqNone.ne_none_none (aaS I q (by simp))
  |bl j=>cases ry;exact PySem.EqNone.ne_none_bool (aaS I q (by simp))
  |int j=>obtain⟨t',rfl⟩:=ry;exact PySem.EqNone.ne_none_int (aaS I q (by simp))
  |str j=>obtain⟨t',rfl⟩:=ry;exact PySem.EqNone.ne_none_str (aaS I q (by simp))
  |_=>exact absurd (show false=true from hs) bB
 |bl i=>
  cases rx
  cases y with
  |non=>cases ry;exact PySem.EqNone.ne_bool_none (aaS I q (by simp))
  |bl j=>cases ry;exact ne_bool (aaS I q (congrArg not azO))
  |str j=>obtain⟨t',rfl⟩:=ry;exact PySem.EqMixed.ne_bool_str (aaS I q (by simp))
  |_=>exact absurd (show false=true from hs) bB
 |int i=>
  obtain⟨t,rfl⟩:=rx
  cases y with
  |non=>cases ry;exact PySem.EqNone.ne_int_none (aaS I q (by simp))
  |int j=>obtain⟨t',rfl⟩:=ry;exact ne_int (aaS I q (congrArg not aeV))
  |str j=>obtain⟨t',rfl⟩:=ry;exact PySem.EqMixed.ne_int_str (aaS I q (by simp))
  |_=>exact absurd (show false=true from hs) bB
 |str i=>
  obtain⟨t,rfl⟩:=rx
  cases y with
  |non=>cases ry;exact PySem.EqNone.ne_str_none (aaS I q (by simp))
  |bl j=>cases ry;exact PySem.EqMixed.ne_str_bool (aaS I q (by simp))
  |int j=>obtain⟨t',rfl⟩:=ry;exact PySem.EqMixed.ne_str_int (aaS I q (by simp))
  |str j=>obtain⟨t',rfl⟩:=ry;exact ne_str (aaS I q (congrArg not auK))
  |_=>exact absurd (show false=true from hs) bB
 |byt i=>
  obtain⟨t,rfl⟩:=rx
  cases y with
  |byt j=>obtain⟨t',rfl⟩:=ry;exact PySem.W.ne_bytes (aaS I q (congrArg not auP))
  |_=>exact absurd (show false=true from hs) bB
 |_=>cases y<;>exact absurd (show false=true from hs) bB
theorem aLO:OpR X (compareOp .Lt) (rI0 fun i j=>.bl (decide (i<j))):=aCR fun _ _ _ _ _ _ _ q=>lt_int q
theorem aLS:OpR X (compareOp .LtE) (rI0 fun i j=>.bl (decide (i<=j))):=aCR fun _ _ _ _ _ _ _ q=>le_int q
theorem aME:OpR X (compareOp .Gt) (rI0 fun i j=>.bl (decide (j<i))):=aCR fun _ _ _ _ _ _ _ q=>gt_int q
theorem aHF:OpR X (compareOp .GtE) (rI0 fun i j=>.bl (decide (j<=i))):=aCR fun _ _ _ _ _ _ _ q=>ge_int q
theorem axO:OpR X (compareOp .In) (fun x y H Q=>∃i j,x=.str i/\y=.str j/\Q (.bl (!(Builtin.Str.occurrences j i 0 j.length 1).isEmpty)) H):=by
 intro pins s σ H x y v u Q I rx ry h
 obtain⟨i,j,rfl,rfl,q⟩:=h
 obtain⟨t,rfl⟩:=rx
 obtain⟨t',rfl⟩:=ry
 exact in_str (aaS I q rfl)
theorem aD2:OpR X (compareOp .Is) (fun x y H Q=>y=.non/\Q (.bl (decide (x=.non))) H):=by
 intro pins s σ H x y v u Q I rx ry h
 obtain⟨rfl,q⟩:=h
 cases ry
 refine is_none_gen (aaS I q ?_)
 cases x<;>first
  |(cases rx;rfl)
  |(obtain⟨t,rfl⟩:=rx;rfl)
theorem aCY:OpR X (compareOp .IsNot) (fun x y H Q=>y=.non/\Q (.bl (!decide (x=.non))) H):=by
 intro pins s σ H x y v u Q I rx ry h
 obtain⟨rfl,q⟩:=h
 cases ry
 refine isnot_none_gen (aaS I q ?_)
 cases x<;>first
  |(cases rx;rfl)
  |(obtain⟨t,rfl⟩:=rx;rfl)
theorem azT(b:Expr){op:CmpOp}(h:op≠ .In:=by decide)(h2:op≠ .NotIn:=by decide):behindInMarks op b=false:=by
 have e1:(op==CmpOp.In)=false:=by cases op<;>first | rfl | exact absurd rfl h
 have e2:(op==CmpOp.NotIn)=false:=by cases op<;>first | rfl | exact absurd rfl h2
 cases b<;>simp[behindInMarks,e1,e2]
theorem aBU{op:CmpOp}{r:R2}(ho:OpR X (compareOp op) r)(ha:PE X a ta)(hb:PE X b tb)(hm:behindInMarks op b=false):PE X (.Compare a [op] [b] pos) (tOp r ta tb):=by
 intro pins s σ H Q I h
 exact wpAny_Compare1 (aFS ha hb I h fun v u s2 x y H2 I2 rx ry q=>ho pins s2 σ H2 x y v u Q I2 rx ry q) hm
noncomputable def avF(t:TE):TT:=fun σ H Q=>t σ H fun x H'=>∃k,x=.bl k/\Q k H'
theorem aCW{op:CmpOp}{r:R2}(ho:OpR X (compareOp op) r)(ha:PE X a ta)(hb:PE X b tb)(hm:behindInMarks op b=false):PT X (.Compare a [op] [b] pos) (avF (tOp r ta tb)):=by
 intro pins s σ H Q I h
 refine wpAny_isTrue_Compare1 (thn (ha pins s σ H _ I h) fun v s1 ⟨x,H1,I1,r1,q1⟩=>thn (hb pins s1 σ H1 _ I1 q1) fun u s2 ⟨y,H2,I2,r2,q2⟩=>
  thn (ho pins s2 σ H2 x y v u _ I2 r1 r2 q2) fun c s3 ⟨z,H3,I3,r3,k,e,q3⟩=>?_) hm
 subst e
 cases r3
 exact eK ⟨H3,I3,q3⟩
noncomputable def apA(r r':R2)(ta tb tc:TE):TE:=fun σ H Q=>ta σ H fun x H1=>tb σ H1 fun y H2=>r x y H2 fun z H3=>∃k,z=.bl k/\
 (if k=true then tc σ H3 fun w' H4=>r' y w' H4 Q else Q (.bl false) H3)
theorem aAE{op op':CmpOp}{r r':R2}(ho:OpR X (compareOp op) r)(ho':OpR X (compareOp op') r')(ha:PE X a ta)(hb:PE X b tb)(hc:PE X c tc)
  (hm:lastMarks [op,op'] [b,c]=false:=by with_unfolding_all rfl):PE X (.Compare a [op,op'] [b,c] pos) (apA r r' ta tb tc):=by
 intro pins s σ H Q I h
 refine Compare_chain (thn (ha pins s σ H _ I h) fun v s1 ⟨x,H1,I1,r1,q1⟩=>chain_link (thn (hb pins s1 σ H1 _ I1 q1) fun u s2 ⟨y,H2,I2,r2,q2⟩=>
  thn (ho pins s2 σ H2 x y v u _ I2 r1 r2 q2) fun d s3 ⟨z,H3,I3,r3,k,e,q3⟩=>?_)) hm
 subst e
 cases r3
 refine eK ?_
 cases k with
 |false=>exact ite_ff ⟨.bl false,H3,I3,rfl,q3⟩
 |true=>exact ite_tt (chain_last (thn (hc pins s3 σ H3 _ I3 q3) fun w' s4 ⟨z',H4,I4,r4,q4⟩=>ho' pins s4 σ H4 y z' u w' Q I4 r2 r4 q4))
theorem ay5{op op':CmpOp}{r r':R2}(ho:OpR X (compareOp op) r)(ho':OpR X (compareOp op') r')(ha:PE X a ta)(hb:PE X b tb)(hc:PE X c tc)
  (hm:lastMarks [op,op'] [b,c]=false:=by with_unfolding_all rfl):PT X (.Compare a [op,op'] [b,c] pos) (avF (apA r r' ta tb tc)):=by
 intro pins s σ H Q I h
 refine isTrue_chain (thn (ha pins s σ H _ I h) fun v s1 ⟨x,H1,I1,r1,q1⟩=>test_link (thn (hb pins s1 σ H1 _ I1 q1) fun u s2 ⟨y,H2,I2,r2,q2⟩=>
  thn (ho pins s2 σ H2 x y v u _ I2 r1 r2 q2) fun d s3 ⟨z,H3,I3,r3,k,e,q3⟩=>?_)) hm
 subst e
 cases r3
 refine eK ?_
 cases k with
 |false=>
  obtain⟨k',e',q'⟩:=q3
  cases e'
  exact ite_ff ⟨H3,I3,q'⟩
 |true=>
  refine ite_tt (test_last (thn (hc pins s3 σ H3 _ I3 q3) fun w' s4 ⟨z',H4,I4,r4,q4⟩=>thn (ho' pins s4 σ H4 y z' u w' _ I4 r2 r4 q4) fun d' s5 ⟨z2,H5,I5,r5,k2,e2,q5⟩=>?_))
  subst e2
  cases r5
  exact eK ⟨H5,I5,q5⟩
theorem ahJ:(sizeLine:Nat)<2^63:=by rw[dZ];decide
theorem asY:OpR X (binaryOp .Add) (fun x y H Q=>∃i j,x=.str i/\y=.str j/\i.length+j.length<=sizeLine/\Q (.str (i++j)) H):=by
 intro pins s σ H x y v u Q I rx ry h
 obtain⟨i,j,rfl,rfl,hz,q⟩:=h
 obtain⟨t,rfl⟩:=rx
 obtain⟨t',rfl⟩:=ry
 exact add_str (fun t' tk=>⟨.str (i++j),H,I.tok _,⟨_,rfl⟩,q⟩) hz
theorem acE{x:V}{us:List Value}(r:Vals [x] us):∃u,us=[u]/\RelV x u:=by
 cases r with
 |cons r1 r2=>cases r2;exact⟨_,rfl,r1⟩
theorem apY{x y:V}{us:List Value}(r:Vals [x,y] us):∃u w',us=[u,w']/\RelV x u/\RelV y w':=by
 cases r with
 |cons r1 r2=>
  cases r2 with
  |cons r3 r4=>cases r4;exact⟨_,_,rfl,r1,r3⟩
theorem ayK:adP X (.builtin "abs") (fun xs H Q=>∃i,xs=[.int i]/\Q (.int (if i<0 then -i else i)) H):=by
 intro pins s σ H xs us Q I r h
 obtain⟨i,rfl,q⟩:=h
 obtain⟨u,rfl,t,rfl⟩:=acE r
 exact call_abs_int fun u tk=>⟨.int (if i<0 then -i else i),H,I.tok _,⟨_,rfl⟩,q⟩
theorem axC(hc:X.calm=true):adP X (.builtin "max") (fun xs H Q=>∃i j,xs=[.int i,.int j]/\Q (.int (if j>i then j else i)) H):=by
 intro pins s σ H xs us Q I r h
 obtain⟨i,j,rfl,q⟩:=h
 obtain⟨u,w',rfl,⟨t,rfl⟩,⟨t',rfl⟩⟩:=apY r
 refine max_two_ints (I.ok.hd hc) fun h' tk k=>⟨_,H,I.kept k,?_,q⟩
 by_cases hj:j>i
 ·rw[if_pos hj,if_pos hj];exact⟨_,rfl⟩
 ·rw[if_neg hj,if_neg hj];exact⟨_,rfl⟩
theorem awO(hc:X.calm=true):adP X (.builtin "min") (fun xs H Q=>∃i j,xs=[.int i,.int j]/\Q (.int (if j<i then j else i)) H):=by
 intro pins s σ H xs us Q I r h
 obtain⟨i,j,rfl,q⟩:=h
 obtain⟨u,w',rfl,⟨t,rfl⟩,⟨t',rfl⟩⟩:=apY r
 refine min_two_ints (I.ok.hd hc) fun h' tk k=>⟨_,H,I.kept k,?_,q⟩
 by_cases hj:j<i
 ·rw[if_pos hj,if_pos hj];exact⟨_,rfl⟩
 ·rw[if_neg hj,if_neg hj];exact⟨_,rfl⟩
theorem aoU:adP X (.type "str") (fun xs H Q=>∃i,xs=[.int i]/\i.natAbs.log2<1920/\Q (.str (toString i)) H):=by
 intro pins s σ H xs us Q I r h
 obtain⟨i,rfl,hz,q⟩:=h
 obtain⟨u,rfl,t,rfl⟩:=acE r
 exact PySem.P.str_of_int hz ⟨.str _,H,I.tok _,⟨_,rfl⟩,q⟩
end
structure ObjM(h:Heap)(x dx C:Addr)(mA:Str->Option Value):Prop where
 obj:h.get? x=some (PySem.W.instObj C dx)
 ns:h.Ns1 dx mA
 ne:dx≠x
theorem axH{h:Heap}{dx:Addr}{mA:Str->Option Value}(n:h.Ns1 dx mA):∃od,h.get? dx=some od/\∀name,PySem.W.lookIn name od=some (mA name):=by
 obtain⟨o,es,ep,ho,hd,hk,_,hm⟩:=n
 refine⟨o,ho,fun name=>?_⟩
 have e:=hm name
 unfold nsFind findBy at e
 rw[←Array.find?_toList] at e
 unfold PySem.W.lookIn
 rw[hd]
 dsimp only
 split
 ·rename_i y q
  rw[q] at e
  exact congrArg some e
 ·rename_i q
  rw[q] at e
  have a:es.toList.any (·.refKey)=false:=by
   rw[cX]
   intro y hy
   obtain⟨z,t,hkey⟩:=hk y (Array.mem_toList_iff.mp hy)
   simp[DictEntry.refKey,hkey]
  have a':¬es.toList.any (·.refKey)=true:=by rw[a];exact bB
  rw[if_neg a']
  exact congrArg some e
theorem ObjM.look{h:Heap}{x dx C:Addr}{mA:Str->Option Value}(I:ObjM h x dx C mA):∃od,PySem.W.InstAt h x (PySem.W.instObj C dx) C (some od)/\∀name,PySem.W.lookIn name od=some (mA name):=
 let ⟨od,ho,hl⟩:=axH I.ns
 ⟨od,⟨I.obj,rfl,rfl,ho⟩,hl⟩
section
variable{prog:Program}{w:World}{A:Around}{E:Value->Shared->Prop}{s:Shared}{K:FG}{x dx C f:Addr}{mA:Str->Option Value}{name:Str}{v:Value}
theorem aAX{expr:Bool}{Q:Value->Shared->Prop}(X:K.In s.heap)(I:ObjM s.heap x dx C mA)(hg:PySem.W.plainGet K C name=true)(hh:PySem.W.hasDictIn K C=true)
  (ha:PySem.W.findIn K (.ref C) name=some none) (hv:mA name=some v) (hv':PySem.W.handedIn v=true) (h:Q v {s with toks:=s.toks+1}):
  wpAny (model prog w) A (getAttr (.ref x) name expr) Q E s:=by
 obtain⟨od,J,hl⟩:=I.look
 exact PySem.W.get_value X J (PySem.W.plainGet_of hg).1 (PySem.W.findObj_own hh ha rfl (by rw[hl,hv])) hv' h
theorem ax2{pl:Sem Bool}{Q:Value×List Value->Shared->Prop}(X:K.In s.heap)(I:ObjM s.heap x dx C mA)(hg:PySem.W.plainGet K C name=true)
  (hf:PySem.W.findIn K (.ref C) name=some (some (.ref f))) (ht:PySem.W.isFn K (.ref f)=true) (hv:mA name=none) (h:Q (.ref f,[.ref x]) s):
  wpAny (model prog w) A (getMethod (.ref x) name pl) Q E s:=by
 obtain⟨od,J,hl⟩:=I.look
 exact PySem.W.method_fn X J (PySem.W.plainGet_of hg).1 (PySem.W.plainGet_of hg).2 hf (beq_iff_eq.mp ht) (by show (PySem.W.lookIn name od).map (·.isSome)=some false;rw[hl,hv];rfl) h
theorem aCF{ns:List Str}{Q:Unit->Shared->Prop}(X:K.In s.heap)(I:ObjM s.heap x dx C mA)
  (hs:PySem.W.findIn K (.ref C) "__setattr__"=some (some (.builtin "object.__setattr__"))) (hp:PySem.W.plainOver K C=true) (ht:PySem.W.takerIn K C name=some none) (hh:PySem.W.hasDictIn K C=true)
  (hw:PySem.Within mA ns) (hsz:ns.length<=sizeLine)
  (h:∀h',ObjM h' x dx C (fun y=>if y=name then some v else mA y)->Heap.SameBut dx s.heap h'->Q () {s with heap:=h',toks:=s.toks+2}):
  wpAny (model prog w) A (setAttr (.ref x) name v) Q E s:=by
 obtain⟨od,J,hl⟩:=I.look
 refine PySem.W.set_plain X J hs (PySem.W.osa_open (s:={s with toks:=s.toks+1}) (r:=none) X J hp ht fun b=>?_)
 obtain⟨cd,hc,hd'⟩:=PySem.W.any_some hh
 have hx:s.heap.get? x=some ⟨.ref C,some dx,.plain,#[]⟩:=I.obj
 refine dW (eJ (dW (dW (wpAny_loadPart hx (dW (PySem.W.Looks.here (s:={s with toks:=s.toks+1}) (PySem.W.looks_clsIn X hc) ?_))))))
 rw[hd']
 refine eJ (a:=some dx) (dW (eJ (dW ?_)))
 refine wpAny_nsSet1 (s:={s with toks:=s.toks+1}) I.ns fun h' hn2 hs2=>?_
 obtain⟨oD,esD,epD,hoD,hdD,hcD⟩:=hn2.count (PySem.Within.cons name v hw)
 refine dW (wpAny_lookBehind hoD (by rw[hdD];exact pastItsLine_dict (bO hcD (by rw[bX];omega))) ?_)
 exact eJ (h _ ⟨(hs2.2 _ (Ne.symm I.ne)).trans I.obj,hn2,I.ne⟩ hs2)
theorem ay3{R:Result->Shared->Prop}{vs:List Value}{kw:List (Str×Value)}(X:K.In s.heap)(hm:PySem.W.makesIn K C=true)
  (hi:PySem.W.findIn K (.ref C) "__init__"=some (some (.ref f))) (hf:PySem.W.typeIn K (.ref f)=some (.type "function"))
  (h:codeAny (model prog w) (A.under (.builtin "type.__call__" ⟨.ref C::vs,kw⟩)) (.call (.ref f) ⟨.ref (s.heap.objs.size+1)::vs,kw⟩) (PySem.W.InitBack (s.heap.objs.size+1) R)
   {s with heap:=(s.heap.push PySem.W.emptyDict).push (PySem.W.instObj C s.heap.objs.size)}):
  codeAny (model prog w) A (.call (.ref C) ⟨vs,kw⟩) R s:=by
 obtain⟨hh,g,d,t,os⟩:=s
 exact PySem.W.make_core (PySem.W.makes_of X hm) (PySem.W.looks_findIn X hi) (fun self=>PySem.W.bind_fn X self hf) (.inl rfl) h
theorem awG{R:Result->Shared->Prop}(X:K.In s.heap)(hm:PySem.W.makesIn K C=true)
  (hi:PySem.W.findIn K (.ref C) "__init__"=some (some (.builtin "object.__init__")))
  (hb:∀self,PySem.W.Looks (model prog w) s.heap (bindSpecial (.builtin "object.__init__") self) (.builtin "object.__init__",[self]))
  (h:codeAny (model prog w) (A.under (.builtin "type.__call__" ⟨[.ref C],[]⟩)) (.call (.builtin "object.__init__") ⟨[.ref (s.heap.objs.size+1)],[]⟩) (PySem.W.InitBack (s.heap.objs.size+1) R)
   {s with heap:=(s.heap.push PySem.W.emptyDict).push (PySem.W.instObj C s.heap.objs.size)}):
  codeAny (model prog w) A (.call (.ref C) ⟨[],[]⟩) R s:=by
 obtain⟨hh,g,d,t,os⟩:=s
 exact PySem.W.make_core (PySem.W.makes_of X hm) (PySem.W.looks_findIn X hi) hb (.inr ⟨rfl,rfl⟩) h
end
noncomputable def aaU(f:Str)(v:V):List (Str×V)->List (Str×V)
 |[]=>[(f,v)]
 |(g,x)::r=>if g=f then (g,v)::r else (g,x)::aaU f v r
theorem aaE(f g:Str)(v:V):∀fs:List (Str×V),(aaU f v fs).lookup g=if g=f then some v else fs.lookup g
 |[]=>by
  show List.lookup g [(f,v)]=_
  by_cases h:g=f
  ·have hb:(g==f)=true:=beq_iff_eq.mpr h
   simp only[List.lookup,hb,if_pos h]
  ·have hb:(g==f)=false:=beq_eq_false_iff_ne.mpr h
   simp only[List.lookup,hb,if_neg h]
 |(k,x)::r=>by
  have ih:=aaE f g v r
  rw[show aaU f v ((k,x)::r)=(if k=f then (k,v)::r else (k,x)::aaU f v r) from rfl]
  by_cases hk:k=f
  ·rw[if_pos hk]
   by_cases h:g=k
   ·have hb:(g==k)=true:=beq_iff_eq.mpr h
    simp only[List.lookup,hb,if_pos (h.trans hk)]
   ·have hb:(g==k)=false:=beq_eq_false_iff_ne.mpr h
    simp only[List.lookup,hb,if_neg (fun e:g=f=>h (e.trans hk.symm))]
  ·rw[if_neg hk]
   by_cases h:g=k
   ·have hb:(g==k)=true:=beq_iff_eq.mpr h
    simp only[List.lookup,hb,if_neg (fun e:g=f=>hk (h.symm.trans e))]
   ·have hb:(g==k)=false:=beq_eq_false_iff_ne.mpr h
    simp only[List.lookup,hb]
    exact ih
theorem ahB(f:Str)(v:V):∀fs:List (Str×V),f∈(aaU f v fs).map (·.1)/\∀g,g∈fs.map (·.1)->g∈(aaU f v fs).map (·.1)
 |[]=>⟨by simp[aaU],fun g h=>by simp at h⟩
 |(k,x)::r=>by
  obtain⟨i1,i2⟩:=ahB f v r
  rw[show aaU f v ((k,x)::r)=(if k=f then (k,v)::r else (k,x)::aaU f v r) from rfl]
  by_cases hk:k=f
  ·rw[if_pos hk]
   subst hk
   exact⟨by simp,fun g h=>by simpa using h⟩
  ·rw[if_neg hk]
   refine⟨?_,fun g h=>?_⟩
   ·rw[bG]
    exact bM _ i1
   ·rw[bG] at h ⊢
    rcases aY.mp h with e | e
    ·exact aY.mpr (.inl e)
    ·exact bM _ (i2 g e)
theorem aiD(f:Str)(v:V):∀fs:List (Str×V),(aaU f v fs).length<=fs.length+1
 |[]=>by simp[aaU]
 |(k,x)::r=>by
  have ih:=aiD f v r
  rw[show aaU f v ((k,x)::r)=(if k=f then (k,v)::r else (k,x)::aaU f v r) from rfl]
  by_cases hk:k=f
  ·rw[if_pos hk,bX,bX];omega
  ·rw[if_neg hk,bX,bX];omega
theorem RelO.some_of{v:V}{o:Option Value}(r:RelO (some v) o):∃u,o=some u/\RelV v u:=by
 cases o with
 |none=>exact (show False from r).elim
 |some u=>exact⟨u,rfl,r⟩
theorem RelO.none_of{o:Option Value}(r:RelO none o):o=none:=by
 cases o with
 |none=>rfl
 |some u=>exact (show False from r).elim
theorem aw7{v:V}{u:Value}(r:RelV v u):PySem.W.handedIn u=true:=by
 cases v with
 |non=>cases (show u=Value.none from r);rfl
 |bl b=>cases (show u=Value.bool b from r);rfl
 |int i=>obtain⟨t,e⟩:=(show ∃t,u=Value.int i t from r);cases e;rfl
 |str x=>obtain⟨t,e⟩:=(show ∃t,u=Value.str x t from r);cases e;rfl
 |byt b=>obtain⟨t,e⟩:=(show ∃t,u=Value.bytes b t from r);cases e;rfl
 |flt b=>obtain⟨t,e⟩:=(show ∃t,u=Value.float b t from r);cases e;rfl
 |ref a=>cases (show u=Value.ref a from r);rfl
 |ty n=>cases (show u=Value.type n from r);rfl
section
variable{P:Program}{w:World}{H H':Hp}{h h':Heap}{a C dx:Addr}{fs fs':List (Str×V)}
theorem aoA(hok:HOk P w H h)(e:H a=some (.ins C dx fs)):∃mA,ObjM h a dx C mA/\(∀f,RelO (fs.lookup f) (mA f))/\PySem.Within mA (fs.map (·.1))/\fs.length<=1000/\H dx=some (.own a):=by
 obtain⟨d,z,ne,ob,mA,n,r,q⟩:=(show ObjOk P w H h a (.ins C dx fs) from hok a _ e)
 exact⟨mA,⟨ob,n,ne⟩,r,q,z,d⟩
end
structure Cls(K:FG)(C:Addr):Prop where
 pg:PySem.W.plainGet K C Str.empty=true
 hd:PySem.W.hasDictIn K C=true
 po:PySem.W.plainOver K C=true
 sa:PySem.W.findIn K (.ref C) "__setattr__"=some (some (.builtin "object.__setattr__"))
theorem Cls.get{K:FG}{C:Addr}(c:Cls K C)(f:Str):PySem.W.plainGet K C f=true:=c.pg
noncomputable def NoAttr(K:FG)(C:Addr)(f:Str):Prop:=PySem.W.findIn K (.ref C) f=some none
theorem NoAttr.taker{K:FG}{C:Addr}{f:Str}(n:NoAttr K C f):PySem.W.takerIn K C f=some none:=by
 unfold PySem.W.takerIn
 rw[show PySem.W.findIn K (.ref C) f=some none from n]
 rfl
structure Meth(K:FG)(C:Addr)(m:Str)(f:Addr):Prop where
 at_:PySem.W.findIn K (.ref C) m=some (some (.ref f))
 fn:PySem.W.isFn K (.ref f)=true
 kp:PySem.W.keepIn K (.ref f)=true
section
variable{X:Cx}{pins:List (Addr×Obj)}{σ:St}{H:Hp}{s:Shared}{a C dx:Addr}{fs:List (Str×V)}{f:Str}{v:V}{A:Around}{E:Value->Shared->Prop}
theorem at4{b:Bool}{Q:Value->Shared->Prop}(I:Inv X pins σ H s)(e:H a=some (.ins C dx fs))(c:Cls X.K C)(n:NoAttr X.K C f)(l:fs.lookup f=some v)
  (h:∀u s',Inv X pins σ H s'->RelV v u->Q u s'):wpAny (model X.prog X.w) A (getAttr (.ref a) f b) Q E s:=by
 obtain⟨mA,O,r,_,_,_⟩:=aoA I.hok e
 obtain⟨u,hu,ru⟩:=RelO.some_of (v:=v) (o:=mA f) (by rw[←l];exact r f)
 exact aAX I.kIn O (c.get f) c.hd n hu (aw7 ru) (h u _ (I.tok _) ru)
theorem auI{m:Str}{g:Addr}{pl:Sem Bool}{Q:Value×List Value->Shared->Prop}(I:Inv X pins σ H s)(e:H a=some (.ins C dx fs))(c:Cls X.K C)(k:Meth X.K C m g)(l:fs.lookup m=none)
  (h:Q (.ref g,[.ref a]) s):wpAny (model X.prog X.w) A (getMethod (.ref a) m pl) Q E s:=by
 obtain⟨mA,O,r,_,_,_⟩:=aoA I.hok e
 have hn:mA m=none:=RelO.none_of (by rw[←l];exact r m)
 exact ax2 I.kIn O (c.get m) k.at_ k.fn hn h
theorem atU{y:V}{u:Value}{Q:Unit->Shared->Prop}(I:Inv X pins σ H s)(e:H a=some (.ins C dx fs))(c:Cls X.K C)(n:NoAttr X.K C f)(hl:fs.length<1000)(ry:RelV y u)
  (h:∀s',Inv X pins σ (upd H a (.ins C dx (aaU f y fs))) s'->Q () s'):wpAny (model X.prog X.w) A (setAttr (.ref a) f u) Q E s:=by
 obtain⟨mA,O,r,wi,_,ho⟩:=aoA I.hok e
 have hz:(fs.map (·.1)).length<=sizeLine:=by rw[aU,dZ];omega
 refine aCF I.kIn O c.sa c.po n.taker c.hd wi hz fun h' O' sb=>h _ ?_
 have hd:∃o,h'.get? dx=some o:=let ⟨o,_,_,e',_⟩:=O'.ns;⟨o,e'⟩
 refine I.write (x:=a) (e:=dx) (by rw[e];exact True.intro) (.inr ho) (fun b q hb z=>(sb.2 b hb).trans z) hd ?_
 refine⟨by rw[aaF O.ne];exact ho,?_,O.ne,O'.obj,_,O'.ns,fun g=>?_,fun g hg=>?_⟩
 ·have:=aiD f y fs;omega
 ·show RelO ((aaU f y fs).lookup g) (if g=f then some u else mA g)
  rw[aaE]
  by_cases q:g=f
  ·rw[if_pos q,if_pos q];exact ry
  ·rw[if_neg q,if_neg q];exact r g
 ·by_cases q:g=f
  ·rw[q];exact (ahB f y fs).1
  ·refine (ahB f y fs).2 g (wi g fun z=>hg ?_)
   show (if g=f then some u else mA g)=none
   rw[if_neg q];exact z
theorem Inv.made(I:Inv X pins σ H s):Inv X pins σ (upd (upd H s.heap.objs.size (.own (s.heap.objs.size+1))) (s.heap.objs.size+1) (.ins C s.heap.objs.size []))
  {s with heap:=(s.heap.push PySem.W.emptyDict).push (PySem.W.instObj C s.heap.objs.size)}:=by
 have e1:(s.heap.push PySem.W.emptyDict).get? s.heap.objs.size=some PySem.W.emptyDict:=bD s.heap rfl
 have e2:((s.heap.push PySem.W.emptyDict).push (PySem.W.instObj C s.heap.objs.size)).get? (s.heap.objs.size+1)=some (PySem.W.instObj C s.heap.objs.size):=by
  have:=bD (s.heap.push PySem.W.emptyDict) (o:=PySem.W.instObj C s.heap.objs.size) rfl
  rwa [cH] at this
 have e3:(s.heap.push PySem.W.emptyDict).Ns s.heap.objs.size (fun _=>none):=⟨PySem.W.emptyDict,#[],_,e1,rfl,(fun e he=>absurd he (by simp)),fun _=>rfl⟩
 have I1:=I.laid (a:=s.heap.objs.size) (o:=.own (s.heap.objs.size+1)) (h':=s.heap.push PySem.W.emptyDict) (t':=s.toks) (fun b u q=>aW _ q) (aS _) ⟨_,e1⟩
 refine I1.laid (a:=s.heap.objs.size+1) (o:=.ins C s.heap.objs.size []) (t':=s.toks) (fun b u q=>aW _ q) (Nat.le_of_eq (cH _ _)) ?_
 have ne:s.heap.objs.size≠s.heap.objs.size+1:=aX (cY _)
 refine⟨by rw[aaF ne,aaA],bK _,ne,e2,fun _=>none,(Heap.Ns1.of_empty e3).at fun o q=>aW _ q,fun _=>True.intro,fun y hy=>absurd rfl hy⟩
theorem aBS{prog:Program}{w:World}{env:Env}{e:Expr}{f:Str}{pos:Pos}{s:Shared}{Q:Value->Shared->Prop}(hb:attributeBase e f env (eval e env)=eval e env)
  (h:wpAny (model prog w) A (eval e env) (fun o s₁=>wpAny (model prog w) A (getAttr o f true) Q E s₁) E s):wpAny (model prog w) A (eval (.Attribute e f pos) env) Q E s:=
 Attribute_any_ h (by rw[arm_eval_Attribute,hb])
end
noncomputable def aEG(K:FG)(ta:TE)(f:Str):TE:=fun σ H Q=>ta σ H fun x H1=>∃a C dx fs v,x=.ref a/\H1 a=some (.ins C dx fs)/\Cls K C/\NoAttr K C f/\fs.lookup f=some v/\Q v H1
noncomputable def aPQ(K:FG)(ta tv:TE)(f:Str):TS:=fun D σ H=>tv σ H fun y H1=>ta σ H1 fun x H2=>∃a C dx fs,x=.ref a/\H2 a=some (.ins C dx fs)/\Cls K C/\NoAttr K C f/\fs.length<1000/\
 D.nx σ (upd H2 a (.ins C dx (aaU f y fs)))
section
variable{X:Cx}{o e value:Expr}{f:Str}{pos pos' tpos:Pos}{ta tv:TE}
theorem aF4(he:PE X e ta)(hb:attributeBase e f X.env (eval e X.env)=eval e X.env):PE X (.Attribute e f pos) (aEG X.K ta f):=by
 intro pins s σ H Q I h
 refine aBS hb (thn (he pins s σ H _ I h) fun u s1 ⟨x,H1,I1,rx,a,C,dx,fs,v,ex,ea,c,n,l,q⟩=>?_)
 subst ex
 obtain rfl:u=Value.ref a:=rx
 exact at4 I1 ea c n l fun u' s2 I2 ru=>⟨v,H1,I2,ru,q⟩
theorem aF2(ha:PE X o ta)(hv:PE X value tv)(hs:swapsWith value (some (.Attribute o f pos')) pos.line X.env=pure false):PS X (.Assign [.Attribute o f pos'] value pos) (aPQ X.K ta tv f):=by
 intro pins s σ H D I h
 refine plainObj_wpAny_Assign_Attribute (thn (hv pins s σ H _ I h) fun u s1 ⟨y,H1,I1,ry,q⟩=>thn (ha pins s1 σ H1 _ I1 q) fun ov s2 ⟨x,H2,I2,rx,a,C,dx,fs,ex,ea,c,n,l,q2⟩=>?_) hs
 subst ex
 obtain rfl:ov=Value.ref a:=rx
 exact atU I2 ea c n l ry fun s3 I3=>⟨σ,_,I3,q2⟩
end
section
variable{X:Cx}{pins:List (Addr×Obj)}{σ:St}{H:Hp}{s:Shared}{A:Around}{E:Value->Shared->Prop}{Q:Value->Shared->Prop}{c:Value}{b:Bool}
inductive TyOf (K:FG) (H:Hp):V->Value->Prop where
 |non:TyOf K H .non (.type "NoneType")
 |bl (x:Bool):TyOf K H (.bl x) (.type "bool")
 |int (i:Int):TyOf K H (.int i) (.type "int")
 |str (x:Str):TyOf K H (.str x) (.type "str")
 |flt (x:UInt64):TyOf K H (.flt x) (.type "float")
 |lst {a:Addr} {xs:List V} (e:H a=some (.lst xs)):TyOf K H (.ref a) (.type "list")
 |frz {a:Addr} {o:Obj} {xs:List V} (e:H a=some (.frz o (.lst xs))):TyOf K H (.ref a) (.type "list")
 |tup {a:Addr} {xs:List V} (e:H a=some (.tup xs)):TyOf K H (.ref a) (.type "tuple")
 |dK {a:Addr} {kvs:List (Key×V)} (e:H a=some (.dK kvs)):TyOf K H (.ref a) (.type "dict")
 |dT {a:Addr} {kvs:List (List Key×V)} (e:H a=some (.dT kvs)):TyOf K H (.ref a) (.type "dict")
 |ins {a C dx:Addr} {fs:List (Str×V)} (e:H a=some (.ins C dx fs)) (cl:Cls K C) (ha:PySem.W.findIn K (.ref C) "__class__"=some (some (.builtin "object.__class__")))
   (hn:PySem.W.specialIn K (.builtin "object.__class__") "__get__"=some (some (.builtin "getset_descriptor.__get__"))) (htk:PySem.W.takesIn K (.builtin "object.__class__")=some true)
   (hm:PySem.W.mroIn K C (.type "object")=some true):TyOf K H (.ref a) (.ref C)
end
structure Room(k:Nat)(A:Around):Prop where
 hd:A.handled=none
 dp:A.depth+3*k+5<recursionLimit
 un:A.units+16*k+200<cLine
theorem Room.mono{j k:Nat}{A:Around}(r:Room k A)(h:j<=k):Room j A:=⟨r.hd,by have:=r.dp;omega,by have:=r.un;omega⟩
theorem Room.deeper{k:Nat}{A:Around}(r:Room (k+1) A)(env:Env):Room k (A.deeper env):=
 ⟨r.hd,by have:=r.dp;show A.depth+1+3*k+5<_;omega,by have:=r.un;show A.units+3+16*k+200<_;omega⟩
theorem at5{A:Around}{C:Addr}{us:List Value}{kw:List (Str×Value)}:(A.under (.builtin "type.__call__" ⟨.ref C::us,kw⟩)).depth=A.depth+1:=by
 first | rfl | simp[Around.under,Code.weight,Code.isCreation,Code.isGuard,Code.isCaller,Code.frames,Code.isFrame,guardIds]
theorem atO{A:Around}{C:Addr}{us:List Value}{kw:List (Str×Value)}:(A.under (.builtin "type.__call__" ⟨.ref C::us,kw⟩)).units=A.units+1:=by
 first | rfl | simp[Around.under,Code.cUnits,Code.frames,Code.isFrame]
theorem Room.make{k:Nat}{A:Around}(r:Room (k+1) A)(C:Addr)(us:List Value)(kw:List (Str×Value)):Room k (A.under (.builtin "type.__call__" ⟨.ref C::us,kw⟩)):=
 ⟨r.hd,by have:=r.dp;rw[at5];omega,by have:=r.un;rw[atO];omega⟩
theorem Room.depth{k:Nat}{A:Around}(r:Room k A):A.depth<recursionLimit:=by have:=r.dp;omega
theorem Room.units{k:Nat}{A:Around}(r:Room k A):A.units+64<cLine:=by have:=r.un;omega
noncomputable def akI:TA:=fun _ H Q=>Q [] H
noncomputable def adX(ta:TE)(tr:TA):TA:=fun σ H Q=>ta σ H fun x H1=>tr σ H1 fun xs H2=>Q (x::xs) H2
section
variable{X:Cx}{e:Expr}{es:List Expr}{te:TE}{t:TA}{pos:Pos}
theorem aeG:PA X [] akI:=fun _ _ _ _ H Q I h=>Calls.spliced_nil ⟨[],H,I,.nil,h⟩
theorem acY(ha:PE X e te)(hr:PA X es t)(hs:starEach (e::es) X.env=(false,eval e X.env)::starEach es X.env:=by rfl):PA X (e::es) (adX te t):=by
 intro pos pins s σ H Q I h
 rw[hs]
 show wpAny _ _ (spliced ((false,eval e X.env)::backTo pos (starEach es X.env))) _ _ s
 refine Calls.spliced_cons (thn (ha pins s σ H _ I h) fun u s1 ⟨x,H1,I1,r1,q1⟩=>?_)
 exact thn (hr pos pins s1 σ H1 _ I1 q1) fun us s2 ⟨xs,H2,I2,r2,q2⟩=>⟨x::xs,H2,I2,.cons r1 r2,q2⟩
noncomputable def aKA(t:TA):TE:=fun σ H Q=>t σ H fun xs H1=>xs.length<=sizeLine/\∀p,H1 p=none->Q (.ref p) (upd H1 p (.tup xs))
noncomputable def aOO(t:TA):TE:=fun σ H Q=>t σ H fun xs H1=>xs.length<=sizeLine/\∀p,H1 p=none->Q (.ref p) (upd H1 p (.lst xs))
theorem aEN{x1}(h:PA X es t):PE X (.Tuple es x1 pos) (aKA t):=by
 intro pins s σ H Q I hq
 refine wpAny_Tuple_spliced (thn (h pos pins s σ H _ I hq) fun us s1 ⟨xs,H1,I1,r,z,q⟩=>⟨by rw[←r.length];exact z,?_⟩)
 have hf:H1 s1.heap.objs.size=none:=I1.hok.fresh (aS _)
 refine⟨.ref s1.heap.objs.size,upd H1 s1.heap.objs.size (.tup xs),I1.laid (t':=s1.toks) (fun b u e=>aW _ e) (aS _) ?_,rfl,q _ hf⟩
 exact⟨z,us,r,⟨_,bD _ rfl,rfl,_,rfl⟩⟩
theorem aFI(h:PA X es t):PE X (.List es pos) (aOO t):=by
 intro pins s σ H Q I hq
 refine wpAny_List_spliced (thn (h pos pins s σ H _ I hq) fun us s1 ⟨xs,H1,I1,r,z,q⟩=>⟨by rw[←r.length];exact z,?_⟩)
 have hf:H1 s1.heap.objs.size=none:=I1.hok.fresh (aS _)
 refine⟨.ref s1.heap.objs.size,upd H1 s1.heap.objs.size (.lst xs),I1.laid (t':=s1.toks) (fun b u e=>aW _ e) (aS _) ?_,rfl,q _ hf⟩
 exact⟨z,us,0,r,bD _ rfl⟩
end
noncomputable abbrev Sp:=List V->Hp->VK->XK->Prop
noncomputable abbrev CXT:=List Env->Hp->Shared->XK->Value->Shared->Prop
structure Env0(P:Program)(w:World)(K:FG)(mg:Str->Option Value)(base:Heap)(A:Around)(outer:List Env)(s:Shared)(H:Hp):Prop where
 frames:A.frames=some outer
 mod:Mod K mg base
 bs:∀b o,base.get? b=some o->s.heap.get? b=some o/\H b=none
 bsz:base.objs.size<=s.heap.objs.size
 funs:s.heap.FunFrames base outer
 frf:∀b∈frs outer,H b=none
 hok:HOk P w H s.heap
 bare:AllBare s.gens
noncomputable def CE(outer:List Env)(P:Program)(w:World)(H:Hp)(s:Shared)(Q:VK)(u:Value)(s':Shared):Prop:=
 ∃v H',s'.os=s.os/\AllBare s'.gens/\Un (frs outer) [] H H' s.heap s'.heap/\HOk P w H' s'.heap/\RelV v u/\Q v H'
noncomputable def CR(CX:CXT)(outer:List Env)(P:Program)(w:World)(H:Hp)(s:Shared)(Q:VK)(E:XK)(r:Result)(s':Shared):Prop:=
 match r with
 |.ok (.ret u)=>CE outer P w H s Q u s'
 |.ok _=>False
 |.error e=>CX outer H s E e s'
structure FnOk(P:Program)(w:World)(K:FG)(mg:Str->Option Value)(base:Heap)(CX:CXT)(k:Nat)(f:Addr)(fd:FuncData)(ps:List Str)(sp:Sp):Prop where
 len:∀vs H Q E,sp vs H Q E->vs.length=ps.length
 run:∀(A:Around) (outer:List Env) (s:Shared) (H:Hp) (args:Args) (us:List Value) (vs:List V) (Q:VK) (E:XK),Room k A->Env0 P w K mg base A outer s H->BindsTo s fd args (ps.zip us)->Vals vs us->sp vs H Q E->
  codeAny (model P w) A (.call (.ref f) args) (CR CX outer P w H s Q E) s
theorem Env0.make{P:Program}{w:World}{K:FG}{mg:Str->Option Value}{base:Heap}{A:Around}{outer:List Env}{s:Shared}{H:Hp}(e:Env0 P w K mg base A outer s H)(C:Addr)(us:List Value)(kw:List (Str×Value)):
  Env0 P w K mg base (A.under (.builtin "type.__call__" ⟨.ref C::us,kw⟩)) outer s H:=⟨by first | exact e.frames | (simpa [Around.under,Code.envs,Code.isFrame,pushEnvs] using e.frames),e.mod,e.bs,e.bsz,e.funs,e.frf,e.hok,e.bare⟩
section
variable{X:Cx}{pins:List (Addr×Obj)}{σ:St}{H:Hp}{s s':Shared}
theorem Inv.env0(I:Inv X pins σ H s):Env0 X.prog X.w X.K X.mg X.base X.A X.stack s H:=
 ⟨I.ok.frames,I.ok.mod,I.bs,bO I.ok.bsz I.sz,I.stack,I.stkFree,I.hok,I.bare⟩
theorem Inv.after{Q:VK}{u:Value}(I:Inv X pins σ H s)(h:CE X.stack X.prog X.w H s Q u s'):EP X pins σ Q u s':=by
 obtain⟨v,H',os,bare,un,hok,r,q⟩:=h
 obtain⟨hh,g,d,t,os'⟩:=s'
 obtain rfl:os'=s.os:=os
 exact⟨v,H',I.call (h':=hh) (g':=g) (d':=d) (t':=t) (ch:=[]) un hok bare (fun b z=>absurd z (by simp)),r,q⟩
end
noncomputable def auJ(sp:Sp)(dvs:List V)(E:XK)(t:TA):TE:=fun σ H Q=>t σ H fun vs H1=>sp (vs++dvs) H1 Q E
noncomputable def aAN(C:Addr)(m:Str)(sp:Sp)(dvs:List V)(E:XK)(ta:TE)(t:TA):TE:=fun σ H Q=>ta σ H fun x H1=>∃a dx fs,x=.ref a/\H1 a=some (.ins C dx fs)/\fs.lookup m=none/\
 t σ H1 fun vs H2=>sp (x::(vs++dvs)) H2 Q E
noncomputable def avW(C:Addr)(sp:Sp)(dvs:List V)(E:XK)(t:TA):TE:=fun σ H Q=>t σ H fun vs H1=>∀x dx,H1 x=none->H1 dx=none->dx≠x->
 sp (.ref x::(vs++dvs)) (upd (upd H1 dx (.own x)) x (.ins C dx [])) (fun v H2=>v=.non/\Q (.ref x) H2) E
noncomputable def Binds(K:FG)(fd:FuncData)(ps:List Str)(ds:List Value):Prop:=
 ∀(s:Shared) (us:List Value),K.In s.heap->(us++ds).length=ps.length->BindsTo s fd ⟨us,[]⟩ (ps.zip (us++ds))
theorem Binds.all{K:FG}{fd:FuncData}{ps:List Str}(h:∀us:List Value,us.length=ps.length->bindArgs fd ⟨us,[]⟩=pure (ps.zip us)):Binds K fd ps []:=fun s us _ hl=>by
 rw[cI] at hl ⊢
 exact .of_eq (h us hl)
noncomputable def afX(CX:CXT)(X:Cx)(E:XK):Prop:=∀(pins:List (Addr×Obj)) (σ:St) (H:Hp) (s:Shared) (e:Value) (s':Shared),Inv X pins σ H s->CX X.stack H s E e s'->X.xe e s'
section
variable{X:Cx}{CX:CXT}{k:Nat}{f C:Addr}{fd:FuncData}{ps:List Str}{sp:Sp}{dvs:List V}{ds:List Value}{E:XK}{x m:Str}{p pos apos:Pos}{e o:Expr}{es:List Expr}{ta:TE}{t:TA}
theorem asR{pins:List (Addr×Obj)}{σ:St}{H:Hp}{s:Shared}{Q:VK}{us:List Value}{vs:List V}(F:FnOk X.prog X.w X.K X.mg X.base CX k f fd ps sp)(hr:Room k X.A)(hb:Binds X.K fd ps ds)(hd:Vals dvs ds)(hx:afX CX X E)
  (I:Inv X pins σ H s) (r:Vals vs us) (h:sp (vs++dvs) H Q E):wpAny (model X.prog X.w) X.A (call (.ref f) us) (EP X pins σ Q) X.xe s:=by
 have r2:Vals (vs++dvs) (us++ds):=r.append hd
 have hl:(us++ds).length=ps.length:=by rw[←r2.length];exact F.len _ _ _ _ h
 refine wpAny_call (d6 (F.run X.A X.stack s H ⟨us,[]⟩ (us++ds) (vs++dvs) Q E hr I.env0 (hb s us I.kIn hl) r2 h) fun r s' hq=>?_)
 cases r with
 |error e=>exact hx pins σ H s e s' I hq
 |ok fl=>
  cases fl with
  |ret u=>exact I.after hq
  |next=>exact False.elim hq
  |brk=>exact False.elim hq
  |cont=>exact False.elim hq
theorem aAU(F:FnOk X.prog X.w X.K X.mg X.base CX k f fd ps sp)(hr:Room k X.A)(hg:Gl X x)(hm:X.mg x=some (.ref f))(hk:PySem.W.keepIn X.K (.ref f)=true)(hb:Binds X.K fd ps ds)(hd:Vals dvs ds)(hx:afX CX X E)
  (ha:PA X (e::es) t) (hdb:(x==("__debug__":Str))=false:=by decide) (he:starEach (e::es) X.env=(false,eval e X.env)::starEach es X.env:=by rfl) (hpl:(backTo pos (starEach es X.env)).any (·.1)=false:=by rfl):
  PE X (.Call (.Name x p) (e::es) [] pos) (auJ sp dvs E t):=by
 intro pins s σ H Q I h
 refine eG (aeS I hg hm ?_ hdb)
 refine PySem.W.callWith_K (h₀:=X.base) I.ok.mod.kin hk (thn (ha pos pins s σ H _ I h) fun us s1 ⟨vs,H1,I1,r,q⟩=>⟨I1.kIn,?_⟩) he hpl
 exact asR F hr hb hd hx I1 r q
theorem aCV{pl:Sem Bool}(he:PE X o ta)(c:Cls X.K C)(hm:Meth X.K C m f)(F:FnOk X.prog X.w X.K X.mg X.base CX k f fd ps sp)(hr:Room k X.A)(hb:Binds X.K fd ps ds)(hd:Vals dvs ds)(hx:afX CX X E)(ha:PA X (e::es) t)
  (hst:starEach (e::es) X.env=(false,eval e X.env)::starEach es X.env:=by rfl) (hpl:(backTo pos (starEach es X.env)).any (·.1)=false:=by rfl)
  (ht:eval (.Call (.Attribute o m apos) (e::es) [] pos) X.env=(do
   let ov ←eval o X.env
   standAt apos.atName
   let (f,first) ←holding [ov] (getMethod ov m pl)
   callWith pos f first (backTo pos (starEach (e::es) X.env)) (backToKw pos (keywordEach [] X.env))):=by rfl):
  PE X (.Call (.Attribute o m apos) (e::es) [] pos) (aAN C m sp dvs E ta t):=by
 intro pins s σ H Q I h
 refine PySem.W.methodCall_KW (pl:=pl) (thn (he pins s σ H _ I h) fun u s1 ⟨x,H1,I1,rx,a,dx,fs,ex,ea,l,q⟩=>?_) ht
 subst ex
 obtain rfl:u=Value.ref a:=rx
 refine auI I1 ea c hm l ?_
 refine PySem.W.callWith_K (first:=[.ref a]) (h₀:=X.base) I.ok.mod.kin hm.kp (thn (ha pos pins s1 σ H1 _ I1 q) fun us s2 ⟨vs,H2,I2,r,q2⟩=>⟨I2.kIn,?_⟩) hst hpl
 exact asR (us:=.ref a::us) (vs:=.ref a::vs) F hr hb hd hx I2 (.cons rfl r) q2
structure Mk(K:FG)(C f:Addr):Prop where
 makes:PySem.W.makesIn K C=true
 init:PySem.W.findIn K (.ref C) "__init__"=some (some (.ref f))
 fn:PySem.W.isFn K (.ref f)=true
 kp:PySem.W.keepIn K (.ref C)=true
theorem aqC{pins:List (Addr×Obj)}{σ:St}{H:Hp}{s:Shared}{Q:VK}{us:List Value}{vs:List V}(M:Mk X.K C f)(F:FnOk X.prog X.w X.K X.mg X.base CX k f fd ps sp)(hr:Room (k+1) X.A)(hb:Binds X.K fd ps ds)(hd:Vals dvs ds)
  (hx:afX CX X E) (I:Inv X pins σ H s) (r:Vals vs us)
  (h:∀x dx,H x=none->H dx=none->dx≠x->sp (.ref x::(vs++dvs)) (upd (upd H dx (.own x)) x (.ins C dx [])) (fun v H2=>v=.non/\Q (.ref x) H2) E):
  wpAny (model X.prog X.w) X.A (call (.ref C) us) (EP X pins σ Q) X.xe s:=by
 have hq:=h (s.heap.objs.size+1) s.heap.objs.size (I.hok.fresh (Nat.le_succ _)) (I.hok.fresh (aS _)) (aX (cY _))
 have I2:=Inv.made (C:=C) I
 have r2:Vals (V.ref (s.heap.objs.size+1)::(vs++dvs)) (Value.ref (s.heap.objs.size+1)::(us++ds)):=.cons rfl (r.append hd)
 have hl:(Value.ref (s.heap.objs.size+1)::us++ds).length=ps.length:=by
  have e:=r2.length
  rw[F.len _ _ _ _ hq] at e
  exact e.symm
 refine wpAny_call (ay3 (f:=f) I.kIn M.makes M.init (beq_iff_eq.mp M.fn) (d6 (F.run _ X.stack _ _ ⟨Value.ref (s.heap.objs.size+1)::us,[]⟩ (Value.ref (s.heap.objs.size+1)::(us++ds)) _ _ E (hr.make C us [])
  (I2.env0.make C us []) (hb _ (Value.ref (s.heap.objs.size+1)::us) I2.kIn hl) r2 hq) fun r s' hq'=>?_))
 cases r with
 |error e=>exact hx pins σ _ _ e s' I2 hq'
 |ok fl=>
  cases fl with
  |ret u=>
   obtain⟨v,H',I3,rv,ev,q3⟩:=I2.after hq'
   subst ev
   exact⟨rv,⟨V.ref (s.heap.objs.size+1),H',I3,rfl,q3⟩⟩
  |next=>exact False.elim hq'
  |brk=>exact False.elim hq'
  |cont=>exact False.elim hq'
theorem aB6(M:Mk X.K C f)(F:FnOk X.prog X.w X.K X.mg X.base CX k f fd ps sp)(hr:Room (k+1) X.A)(hg:Gl X x)(hm:X.mg x=some (.ref C))(hb:Binds X.K fd ps ds)(hd:Vals dvs ds)(hx:afX CX X E)
  (ha:PA X (e::es) t) (hdb:(x==("__debug__":Str))=false:=by decide) (he:starEach (e::es) X.env=(false,eval e X.env)::starEach es X.env:=by rfl) (hpl:(backTo pos (starEach es X.env)).any (·.1)=false:=by rfl):
  PE X (.Call (.Name x p) (e::es) [] pos) (avW C sp dvs E t):=by
 intro pins s σ H Q I h
 refine eG (aeS I hg hm ?_ hdb)
 refine PySem.W.callWith_K (h₀:=X.base) I.ok.mod.kin M.kp (thn (ha pos pins s σ H _ I h) fun us s1 ⟨vs,H1,I1,r,q⟩=>⟨I1.kIn,?_⟩) he hpl
 exact aqC M F hr hb hd hx I1 r q
theorem azY(M:Mk X.K C f)(F:FnOk X.prog X.w X.K X.mg X.base CX k f fd ps sp)(hr:Room (k+1) X.A)(hg:Gl X x)(hm:X.mg x=some (.ref C))(hb:Binds X.K fd ps ds)(hd:Vals dvs ds)(hx:afX CX X E)
  (hdb:(x==("__debug__":Str))=false:=by decide):PE X (.Call (.Name x p) [] [] pos) (avW C sp dvs E akI):=by
 intro pins s σ H Q I h
 refine eG (aeS I hg hm ?_ hdb)
 exact PySem.W.callWith_K0 I.kIn M.kp (aqC (us:=[]) M F hr hb hd hx I .nil h)
end
section
variable{X:Cx}{CX:CXT}{k:Nat}{f C:Addr}{fd:FuncData}{ps ks:List Str}{sp:Sp}{E:XK}{x m:Str}{p pos apos kpos:Pos}{e o:Expr}{es:List Expr}{kws:List Keyword}{te ta:TE}{t tk:TA}{nm:Option Str}
variable{g:List Value->List Value->List Value}{gV:List V->List V->List V}
end
structure FnScope(N P:List Str)(sc:Scope):Prop where
 kind:sc.kind=.function
 co:sc.isCoroutine=false
 gen:sc.isGenerator=false
 nd:N.Nodup
 pre:N.take P.length=P
 par:∀x∈P,sc.names.lookup x=some .local∨sc.names.lookup x=some .cell
 nofree:∀y∈sc.names,y.2≠ .free
theorem am5{kindOf:Str->Option NameKind}{x:Str}:∀{binds:List (Str×Value)} {m:Str->Option Value},(∀v,(x,v)∉binds)->bindL kindOf binds m x=m x
 |[],_,_=>rfl
 |(n,v)::r,m,h=>by
  unfold bindL
  rw[am5 fun w hw=>h w (bM _ hw)]
  split
  ·have:x≠n:=by rintro rfl;exact h v bP
   simp[this]
  ·rfl
theorem am6{kindOf:Str->Option NameKind}{x:Str}:∀{binds:List (Str×Value)} {m:Str->Option Value},(∀v,(x,v)∉binds)->bindC kindOf binds m x=m x
 |[],_,_=>rfl
 |(n,v)::r,m,h=>by
  unfold bindC
  rw[am6 fun w hw=>h w (bM _ hw)]
  split
  ·rfl
  ·have:x≠n:=by rintro rfl;exact h v bP
   simp[this]
theorem anD{kindOf:Str->Option NameKind}{x:Str}{v:Value}:∀{P:List Str} {vs:List Value} {i:Nat} {m:Str->Option Value},P.Nodup->P[i]? =some x->vs[i]? =some v->kindOf x=some .local->
  bindL kindOf (P.zip vs) m x=some v
 |[],_,_,_,_,h,_,_=>by simp at h
 |_::_,[],_,_,_,_,h,_=>by simp at h
 |p::P,w::vs,0,m,nd,h1,h2,hk=>by
  simp at h1 h2;subst h1;subst h2
  show bindL kindOf ((p,w)::P.zip vs) m p=_
  unfold bindL
  rw[am5 fun v hv=>(List.nodup_cons.mp nd).1 (List.of_mem_zip hv).1,if_pos hk]
  simp
 |p::P,w::vs,i+1,m,nd,h1,h2,hk=>by
  show bindL kindOf ((p,w)::P.zip vs) m x=_
  unfold bindL
  exact anD (i:=i) (List.nodup_cons.mp nd).2 (by simpa using h1) (by simpa using h2) hk
theorem anF{kindOf:Str->Option NameKind}{x:Str}{v:Value}:∀{P:List Str} {vs:List Value} {i:Nat} {m:Str->Option Value},P.Nodup->P[i]? =some x->vs[i]? =some v->kindOf x≠some .local->
  bindC kindOf (P.zip vs) m x=some v
 |[],_,_,_,_,h,_,_=>by simp at h
 |_::_,[],_,_,_,_,h,_=>by simp at h
 |p::P,w::vs,0,m,nd,h1,h2,hk=>by
  simp at h1 h2;subst h1;subst h2
  show bindC kindOf ((p,w)::P.zip vs) m p=_
  unfold bindC
  rw[am6 fun v hv=>(List.nodup_cons.mp nd).1 (List.of_mem_zip hv).1,if_neg hk]
  simp
 |p::P,w::vs,i+1,m,nd,h1,h2,hk=>by
  show bindC kindOf ((p,w)::P.zip vs) m x=_
  unfold bindC
  exact anF (i:=i) (List.nodup_cons.mp nd).2 (by simpa using h1) (by simpa using h2) hk
noncomputable def start(N:List Str)(vs:List V):St:=vs.map some++List.replicate (N.length-vs.length) none
noncomputable def ai2(CX:CXT)(P:Program)(w:World)(K:FG)(mg:Str->Option Value)(base:Heap)(N:List Str)(qual:Str)(scope:Scope)(f:Addr)(cd:Value)(A:Around)(outer:List Env)(s:Shared)(H:Hp)(E:XK):Cx where
 prog:=P
 w:=w
 K:=K
 mg:=mg
 base:=base
 A:=A.deeper (envOfC qual scope s.heap.objs.size f cd)
 N:=N
 s₀:=s
 H₀:=H
 env:=envOfC qual scope s.heap.objs.size f cd
 outer:=outer
 stack:=envOfC qual scope s.heap.objs.size f cd::outer
 ex:=[]
 calm:=true
 fn:=fun _=>true
 pn:=[]
 xe:=fun e s'=>wpAny (model P w) (A.deeper (envOfC qual scope s.heap.objs.size f cd)) (leaving (envOfC qual scope s.heap.objs.size f cd) e) (fun _ s''=>CX outer H s E e s'') (fun e' s''=>CX outer H s E e' s'') s'
theorem ar0{sc:Scope}{n:Nat}{x:Str}(h:sc.names.lookup x=some .cell):∃c,(cellsFrom n sc.names []).lookup x=some c:=by
 have q:=PySem.W.cellsFrom_some sc.names n [] (.inl h)
 exact dB.mp q
theorem aw6{CX:CXT}{P:Program}{w:World}{K:FG}{mg:Str->Option Value}{base:Heap}{N ps:List Str}{qual:Str}{scope:Scope}{f:Addr}{cd:Value}{A:Around}{outer:List Env}{s s1:Shared}{H:Hp}{E:XK}{us:List Value}{vs:List V}
  (S:FnScope N ps scope) (hd:A.handled=none) (e0:Env0 P w K mg base A outer s H) (hl:vs.length=ps.length) (r:Vals vs us)
  (x:InCallC s s.heap.objs.size (bindL (envOfC qual scope s.heap.objs.size f cd).kindOf (ps.zip us) fun _=>none) (cellsFrom (s.heap.objs.size+1) scope.names []) (bindC (envOfC qual scope s.heap.objs.size f cd).kindOf (ps.zip us) fun _=>none) s1):
  Inv (ai2 CX P w K mg base N qual scope f cd A outer s H E) [] (start N vs) H s1:=by
 have hpl:ps.length<=N.length:=by have:=congrArg List.length S.pre;rw[dC] at this;omega
 obtain⟨h1,tk,rfl,hk⟩:=x.done
 have noA:∀b:Addr,b∉(ai2 CX P w K mg base N qual scope f cd A outer s H E).ex:=fun b z=>absurd (show b∈([]:List Addr) from z) (by simp)
 refine⟨⟨e0.mod,S.kind,rfl,rfl,aS _,fun y z c h1 h2=>?_,fun y hy=>?_,fun y c _ h=>?_,fun _=>hd,Around.frames_deeper e0.frames,.inr ⟨rfl,rfl⟩,fun b z=>absurd z (noA b),e0.bs,e0.bsz,fun b _ _=>noA b,fun b z=>absurd z (noA b),e0.funs,e0.frf⟩,
  rfl,e0.bare,Un.kept hk,⟨_,x.toInCall.ns,fun i y v h1 h2 h3=>?_⟩,fun y c h=>⟨_,x.cell y c h⟩,e0.hok.fresh (aS _),fun y c h=>?_,fun p hp=>absurd (show p∈([]:List (Addr×Obj)) from hp) (by simp),e0.hok.kept hk,?_⟩
 ·exact name_of_addr x.apart (PySem.mem_of_lookup h1) (PySem.mem_of_lookup h2)
 ·have hy:scope.names.lookup y=some .cell∨scope.names.lookup y=some .free:=hy
  rcases hy with hy | hy
  ·exact ar0 hy
  ·exact absurd rfl (S.nofree _ (PySem.mem_of_lookup hy))
 ·exact Nat.le_of_lt (x.above y c (PySem.mem_of_lookup h))
 ·have hi:i<vs.length:=by
   unfold start at h2
   by_cases hi:i<vs.length
   ·exact hi
   ·rw[List.getElem?_append_right (by simpa using hi)] at h2
    rw[List.getElem?_replicate] at h2
    split at h2<;>cases h2
  have ha:vs[i]? =some v:=by
   unfold start at h2
   rw[List.getElem?_append_left (by simpa using hi),bA] at h2
   cases e:vs[i]? with
   |none=>rw[e] at h2;cases h2
   |some a=>rw[e] at h2;cases h2;rfl
  obtain⟨u,hu,rv⟩:=r.get ha
  have hp:ps[i]? =some y:=by
   rw[←S.pre,List.getElem?_take_of_lt (by omega)];exact h1
  have ndP:ps.Nodup:=by rw[←S.pre];exact S.nd.sublist (List.take_sublist _ _)
  refine⟨u,rv,?_⟩
  rcases S.par y (bI hp) with k | k
  ·exact .inl ⟨k,anD ndP hp hu k⟩
  ·obtain⟨c,e⟩:=ar0 (n:=s.heap.objs.size+1) k
   refine .inr ⟨.inl k,c,e,?_⟩
   have q:=x.cell y c e
   rw[anF ndP hp hu (by show scope.names.lookup y≠_;rw[k];decide)] at q
   exact q
 ·exact e0.hok.fresh (Nat.le_of_lt (x.above y c (PySem.mem_of_lookup h)))
 ·unfold start
  show _=N.length
  rw[bC,aU,dD]
  omega
theorem azL{CX:CXT}{P:Program}{w:World}{K:FG}{mg:Str->Option Value}{base:Heap}{k:Nat}{f:Addr}{name qual:Str}{params:Arguments}{body:List Stmt}{scope:Scope}{dV kV doc pm cdv ct oc:Value}{an od:Option Addr}
  {osl:Array (Option Value)} {N ps:List Str} {sp:Sp} (lk:K.lookup f=some ⟨oc,od,.func (PySem.W.fnOf name qual params body scope dV kV doc pm an cdv ct),osl⟩) (hcd:PySem.W.codeIn K cdv qual=true) (S:FnScope N ps scope)
  (len:∀vs H Q E,sp vs H Q E->vs.length=ps.length)
  (hbody:∀(A:Around) (outer:List Env) (s:Shared) (H:Hp) (vs:List V) (Q:VK) (E:XK),Room k (A.deeper (envOfC qual scope s.heap.objs.size f cdv))->sp vs H Q E->
   ∃t,PSs (ai2 CX P w K mg base N qual scope f cdv A outer s H E) body t/\t {nx:=fun _ H'=>Q .non H',rt:=Q} (start N vs) H):
  FnOk P w K mg base CX (k+1) f (PySem.W.fnOf name qual params body scope dV kV doc pm an cdv ct) ps sp:=by
 refine⟨len,fun A outer s H args us vs Q E hr e0 hb r hsp=>?_⟩
 have hl:=len _ _ _ _ hsp
 have KX:K.In s.heap:=e0.mod.kin.keeps fun b o e=>(e0.bs b o e).1
 have lim:s.heap.NoLimit:=e0.mod.nolimit.keeps fun b o e=>(e0.bs b o e).1
 have hkind:∀y∈ps.zip us,scope.names.lookup y.1=some .local∨(scope.names.lookup y.1=some .cell/\((cellsFrom (s.heap.objs.size+1) scope.names []).lookup y.1).isSome=true):=fun ⟨n,v⟩ hy=>by
  rcases S.par n (List.of_mem_zip hy).1 with q | q
  ·exact .inl q
  ·exact .inr ⟨q,PySem.W.cellsFrom_some _ _ _ (.inl q)⟩
 refine codeAny_call_function hr.depth (KX _ _ lk) rfl S.co S.gen rfl (PySem.W.codeRec_of KX hcd) (hb _ _ _ _ ?_)
 refine wpAny_newFunctionEnv_cells S.kind hkind fun env he s1 x=>?_
 subst he
 refine⟨lim.keeps x.toInCall.keep,codeAny_func ?_⟩
 obtain⟨t,ht,hq⟩:=hbody A outer s H vs Q E (hr.deeper _) hsp
 have I:Inv (ai2 CX P w K mg base N qual scope f cdv A outer s H E) [] (start N vs) H s1:=aw6 S hr.hd e0 hl r x
 refine dX (ht [] s1 (start N vs) H _ I hq) (fun fl s' hs=>?_) fun e s' hs=>hs
 have fin:∀{σ':St} {H':Hp} {v:V} {u:Value},Inv (ai2 CX P w K mg base N qual scope f cdv A outer s H E) [] σ' H' s'->RelV v u->Q v H'->CE outer P w H s Q u s':=
  fun {σ' H' v u} J rv q=>⟨v,H',J.os,J.bare,J.base,J.hok,rv,q⟩
 cases fl with
 |ret u=>
  obtain⟨v,σ',H',J,rv,q⟩:=hs
  exact fin J rv q
 |next=>
  obtain⟨σ',H',J,q⟩:=hs
  exact fin (v:=V.non) (u:=Value.none) J rfl q
 |brk=>
  obtain⟨_,_,_,q⟩:=hs
  exact False.elim q
 |cont=>
  obtain⟨_,_,_,q⟩:=hs
  exact False.elim q
section
variable{X:Cx}{x:Str}{p pos:Pos}{e:Expr}{es:List Expr}{t:TA}{id T:String}{r:List V->Hp->VK->Prop}
noncomputable def tCB(r:List V->Hp->VK->Prop)(t:TA):TE:=fun σ H Q=>t σ H fun vs H1=>r vs H1 Q
theorem azW(hc:adP X (.builtin id) r)(hg:Gl X x)(hm:X.mg x=none)(hv:bootBuiltins x=some (.builtin id))(ha:PA X (e::es) t)(hn:x≠"__name__":=by decide)(hdb:(x==("__debug__":Str))=false:=by decide)
  (he:starEach (e::es) X.env=(false,eval e X.env)::starEach es X.env:=by rfl) (hpl:(backTo pos (starEach es X.env)).any (·.1)=false:=by rfl):PE X (.Call (.Name x p) (e::es) [] pos) (tCB r t):=by
 intro pins s σ H Q I h
 refine eG (ahA I hg hm hv ?_ hn hdb)
 exact PyProof.Rows.callWith_builtin1 (thn (ha pos pins s σ H _ I h) fun us s1 ⟨vs,H1,I1,r1,q1⟩=>hc pins s1 σ H1 vs us Q I1 r1 q1) he hpl
theorem awF(hc:adP X (.type T) r)(hg:Gl X x)(hm:X.mg x=none)(hv:bootBuiltins x=some (.type T))(ha:PA X (e::es) t)(hn:x≠"__name__":=by decide)(hdb:(x==("__debug__":Str))=false:=by decide)
  (he:starEach (e::es) X.env=(false,eval e X.env)::starEach es X.env:=by rfl) (hpl:(backTo pos (starEach es X.env)).any (·.1)=false:=by rfl):PE X (.Call (.Name x p) (e::es) [] pos) (tCB r t):=by
 intro pins s σ H Q I h
 refine eG (ahA I hg hm hv ?_ hn hdb)
 exact PyProof.Rows.callWith_type1 (thn (ha pos pins s σ H _ I h) fun us s1 ⟨vs,H1,I1,r1,q1⟩=>hc pins s1 σ H1 vs us Q I1 r1 q1) he hpl
end
end L2
namespace HT
open PySem PyProof.Rows
section
open PySem.SeqAt
open PySem.AutoSeq1 (wpAny_loadPart')
open PySem.MeetsSeq PySem.MeetsSeq2 PySem.MeetsSeq3
end
section
variable{prog:Program}{w:World}{A:Around}{E:Value->Shared->Prop}{s:Shared}
noncomputable def sIx(n d:Nat):Option Int->Nat
 |none=>d
 |some v=>if v<0 then (v+(n:Int)).toNat else min v.toNat n
theorem sIx_le(n d:Nat)(hd:d<=n)(o:Option Int):sIx n d o<=n:=by
 cases o with
 |none=>exact hd
 |some v=>
  show (if v<0 then (v+(n:Int)).toNat else min v.toNat n)<=n
  by_cases hv:v<0
  ·rw[if_pos hv];omega
  ·rw[if_neg hv];exact Nat.min_le_right _ _
end
end HT
namespace L2
open PySem PySem.Spec PyProof.Rows
noncomputable abbrev TO:=St->Hp->(Option Int->Hp->Prop)->Prop
noncomputable def PO(X:Cx)(e:Option Expr)(t:TO):Prop:=
 ∀(pins:List (Addr×Obj)) (s:Shared) (σ:St) (H:Hp) (Q:Option Int->Hp->Prop),Inv X pins σ H s->t σ H Q->
  wpAny (model X.prog X.w) X.A (evalPart e X.env) (fun u s'=>∃o H',Inv X pins σ H' s'/\IsPart u o/\Q o H') X.xe s
noncomputable def auR:TO:=fun _ H Q=>Q none H
noncomputable def aC5(t:TE):TO:=fun σ H Q=>t σ H fun x H1=>∃i,x=.int i/\Q (some i) H1
section
variable{X:Cx}{e:Expr}{te:TE}{lo hi:Option Expr}{tl th:TO}{pos p2:Pos}
theorem aBP:PO X none auR:=by
 intro pins s σ H Q I h
 rw[evalPart_none]
 exact eJ ⟨none,H,I,.none,h⟩
theorem aBF(h:PE X e te):PO X (some e) (aC5 te):=by
 intro pins s σ H Q I hw
 rw[evalPart_some]
 refine thn (h pins s σ H _ I hw) fun u s1 ⟨x,H1,I1,r1,q1⟩=>?_
 obtain⟨i,rfl,q⟩:=q1
 obtain⟨t,rfl⟩:=r1
 exact⟨some i,H1,I1,.int i t,q⟩
noncomputable def SlR(X:Cx)(r:V->Option Int->Option Int->Hp->VK->Prop):Prop:=
 ∀(pins:List (Addr×Obj)) (s:Shared) (σ:St) (H:Hp) (x:V) (v vl vu:Value) (lo hi:Option Int) (sl:Addr) (Q:VK),Inv X pins σ H s->RelV x v->s.heap.IsSliceOf sl vl vu .none->IsPart vl lo->IsPart vu hi->r x lo hi H Q->
  ∃T id,typeLookup (.type T) "__getitem__"=pure (some (.builtin id))/\s.TypeIs v T/\wpAny (model X.prog X.w) X.A (getItem v (.ref sl)) (EP X pins σ Q) X.xe s
noncomputable def tSl(r:V->Option Int->Option Int->Hp->VK->Prop)(te:TE)(tl th:TO):TE:=fun σ H Q=>te σ H fun x H1=>tl σ H1 fun l H2=>th σ H2 fun u H3=>r x l u H3 Q
theorem aAS{r:V->Option Int->Option Int->Hp->VK->Prop}(hr:SlR X r)(he:PE X e te)(hl:PO X lo tl)(hu:PO X hi th):PE X (.Subscript e (.Slice lo hi none p2) pos) (tSl r te tl th):=by
 intro pins s σ H Q I h
 refine Subscript_ (thn (he pins s σ H _ I h) fun v s1 ⟨x,H1,I1,r1,q1⟩=>?_)
 refine wpAny_Slice (thn (hl pins s1 σ H1 _ I1 q1) fun vl s2 ⟨l,H2,I2,pl,q2⟩=>thn (hu pins s2 σ H2 _ I2 q2) fun vu s3 ⟨u,H3,I3,pu,q3⟩=>?_)
 rw[evalPart_none]
 refine eJ ?_
 have I4:Inv X pins σ H3 {s3 with heap:=s3.heap.push {cls:=.type "slice",data:=.fields #[vl,vu,.none]} }:=I3.kept (t':=s3.toks) fun b ob q=>aW _ q
 obtain⟨T,id,hT,ht,hg⟩:=hr pins {s3 with heap:=s3.heap.push {cls:=.type "slice",data:=.fields #[vl,vu,.none]} } σ H3 x v vl vu l u s3.heap.objs.size Q I4 r1 (Heap.IsSliceOf.new ..) pl pu q3
 show wpAny (model X.prog X.w) X.A (subscriptTail e (.Slice lo hi none p2) v (.ref s3.heap.objs.size)) (EP X pins σ Q) X.xe {s3 with heap:=s3.heap.push {cls:=.type "slice",data:=.fields #[vl,vu,.none]} }
 exact tail_any (ops:=[.ref s3.heap.objs.size,v]) ht hT hg (by with_unfolding_all rfl)
noncomputable def aq2(xs:List V)(lo hi:Option Int):List V:=(xs.drop (HT.sIx xs.length 0 lo)).take (HT.sIx xs.length xs.length hi-HT.sIx xs.length 0 lo)
theorem ap6(xs:List V)(lo hi:Option Int):(aq2 xs lo hi).length<=xs.length:=by
 unfold aq2
 rw[dC,List.length_drop]
 omega
end
noncomputable def ixN(n:Nat)(i:Int):Option Nat:=if 0<=i then (if i<n then some i.toNat else none) else if -(n:Int)<=i then some (i+n).toNat else none
noncomputable def atI{α:Type}(xs:List α)(i:Int):Option α:=(ixN xs.length i).bind fun j=>xs[j]?
theorem avD{n:Nat}{i:Int}{j:Nat}(h:ixN n i=some j):seqIndex? i n=some j/\j<n/\ -(n:Int)<=i/\i<n:=by
 unfold ixN at h
 by_cases h0:0<=i
 ·rw[if_pos h0] at h
  by_cases h1:i<n
  ·rw[if_pos h1] at h
   have e:i.toNat=j:=a8 h
   exact⟨by rw[seqIndex_of h0 h1,e],by omega,by omega,h1⟩
  ·rw[if_neg h1] at h;cases h
 ·rw[if_neg h0] at h
  by_cases h1: -(n:Int)<=i
  ·rw[if_pos h1] at h
   have e:(i+n).toNat=j:=a8 h
   exact⟨by rw[seqIndex_neg (by omega) h1,e],by omega,h1,by omega⟩
  ·rw[if_neg h1] at h;cases h
theorem anX{α:Type}{xs:List α}{i:Int}{v:α}(h:atI xs i=some v):∃j,seqIndex? i xs.length=some j/\xs[j]? =some v/\j<xs.length/\ -(xs.length:Int)<=i/\i<xs.length:=by
 unfold atI at h
 cases e:ixN xs.length i with
 |none=>rw[e] at h;cases h
 |some j=>
  rw[e] at h
  obtain⟨h1,h2,h3,h4⟩:=avD e
  exact⟨j,h1,h,h2,h3,h4⟩
theorem aeR{α:Type}{xs:List α}{j:Nat}{v:α}(h:xs[j]? =some v):atI xs (j:Int)=some v:=by
 have hj:j<xs.length:=(cB.mp h).1
 have e:ixN xs.length (j:Int)=some j:=by
  unfold ixN
  rw[if_pos (by omega),if_pos (by omega)];simp
 unfold atI;rw[e];exact h
theorem ayG{α:Type}(xs:List α)(v:α):atI (xs++[v]) (-1)=some v:=by
 have hl:(xs++[v]).length=xs.length+1:=by simp
 have e:ixN (xs++[v]).length (-1)=some xs.length:=by
  unfold ixN
  rw[hl,if_neg (by decide),if_pos (by omega)]
  congr 1
  omega
 unfold atI
 rw[e]
 show (xs++[v])[xs.length]? =some v
 simp
noncomputable def av2(b:Expr):Prop:=∀o i,subscripted b false o i=operate [o,i] (getItem o i)
noncomputable def IxR(X:Cx)(r:R2):Prop:=
 ∀(value slice:Expr) (pins:List (Addr×Obj)) (s:Shared) (σ:St) (H:Hp) (x y:V) (v u:Value) (Q:VK),Inv X pins σ H s->RelV x v->RelV y u->r x y H Q->
  subscripted slice false v u=operate [v,u] (getItem v u)->wpAny (model X.prog X.w) X.A (subscriptTail value slice v u) (EP X pins σ Q) X.xe s
noncomputable def MtR(X:Cx)(id:String)(r:V->List V->Hp->VK->Prop):Prop:=
 ∀(pins:List (Addr×Obj)) (s:Shared) (σ:St) (H:Hp) (x:V) (xs:List V) (v:Value) (us:List Value) (Q:VK),Inv X pins σ H s->RelV x v->Vals xs us->r x xs H Q->
  wpAny (model X.prog X.w) X.A (call (.builtin id) (v::us)) (EP X pins σ Q) X.xe s
section
variable{X:Cx}{a b:Expr}{ta tb:TE}{pos:Pos}
theorem aKU{r:R2}(hr:IxR X r)(ha:PE X a ta)(hb:PE X b tb)(hs:av2 b):PE X (.Subscript a b pos) (tOp r ta tb):=by
 intro pins s σ H Q I h
 exact Subscript_ (aFS ha hb I h fun v u s2 x y H2 I2 rx ry q=>hr a b pins s2 σ H2 x y v u Q I2 rx ry q (hs _ _))
noncomputable def aK3(K:FG):R2:=fun x y H Q=>∃p xs i v,x=.ref p/\y=.int i/\SqL K H p xs/\atI xs i=some v/\Q v H
noncomputable def aPW(K:FG):R2:=fun x y H Q=>∃p xs i v,x=.ref p/\y=.int i/\SqT K H p xs/\atI xs i=some v/\Q v H
noncomputable def rIxS:R2:=fun x y H Q=>∃z i c,x=.str z/\y=.int i/\z.length<=sizeLine/\atI z.cps.toList i=some c/\Q (.str ⟨#[c]⟩) H
theorem aA2:IxR X (aK3 X.K):=by
 intro value slice pins s σ H x y v u Q I rx ry h hs
 obtain⟨p,xs,i,z,rfl,rfl,hq,he,q⟩:=h
 cases rx
 obtain⟨t,rfl⟩:=ry
 obtain⟨its,r,pl,hz⟩:=I.list hq
 obtain⟨j,h1,h2,h3,h4,h5⟩:=anX he
 obtain⟨w,ew,rw'⟩:=r.get h2
 have hl:=r.length
 have hn:=ahJ
 have fin:EP X pins σ Q w s:=⟨z,H,I,rw',q⟩
 by_cases h0:0<=i
 ·have hj:i.toNat=j:=by
   rw[seqIndex_of h0 h5] at h1
   exact a8 h1
  exact item_listR pl.isList h0 (by omega) (by rw[hj];simpa using ew) fin hs
 ·have hj:(i+(its.toArray.size:Int)).toNat=j:=by
   rw[seqIndex_neg (by omega) h4] at h1
   rw[bJ,←hl]
   exact a8 h1
  exact subscriptTail_builtinR (x:=w) pl.isList.typeIs slot_list_getitem.lookup
   (wpAny_getItem_list_neg (Q:=fun r s'=>r=w/\EP X pins σ Q r s') pl.isList (by omega) (by rw[bJ]<;>omega) (by omega) (by rw[hj];simpa using ew) ⟨rfl,fin⟩) hs
theorem aES:IxR X (aPW X.K):=by
 intro value slice pins s σ H x y v u Q I rx ry h hs
 obtain⟨p,xs,i,z,rfl,rfl,hq,he,q⟩:=h
 cases rx
 obtain⟨t,rfl⟩:=ry
 obtain⟨its,r,pl,hz⟩:=I.tuple hq
 obtain⟨j,h1,h2,h3,h4,h5⟩:=anX he
 obtain⟨w,ew,rw'⟩:=r.get h2
 have hl:=r.length
 have hn:=ahJ
 have fin:EP X pins σ Q w s:=⟨z,H,I,rw',q⟩
 exact subscriptTail_builtinR (x:=w) pl.typeIs slot_tuple_getitem.lookup
  (getItem_tuple (j:=j) (Q:=fun r s'=>r=w/\EP X pins σ Q r s') pl (by omega) (by omega) (by rw[bJ,←hl];exact h1) (by simpa using ew) ⟨rfl,fin⟩) hs
theorem aD1:IxR X rIxS:=by
 intro value slice pins s σ H x y v u Q I rx ry h hs
 obtain⟨z,i,c,rfl,rfl,hz,he,q⟩:=h
 obtain⟨t,rfl⟩:=rx
 obtain⟨t',rfl⟩:=ry
 obtain⟨j,h1,h2,h3,h4,h5⟩:=anX he
 have hl:z.cps.toList.length=z.length:=by simp[Str.length]
 rw[hl] at h1 h4 h5
 have hn:=ahJ
 exact tail_any (typeIs_str s z t) slot_str_getitem.lookup (getItem_str (c:=c) (by
  have e1:decide (i< -(2^63:Int))=false:=eF (by omega)
  have e2:decide (i ≥ 2^63)=false:=eF (by omega)
  rw[e1,e2,Bool.or_false]) (by rw[h1];simpa using h2) ⟨.str ⟨#[c]⟩,H,I.tok _,⟨_,rfl⟩,q⟩) hs
theorem as2(its:List Value)(n j:Nat)(u:Value):Obj.mapSeq (·.setIfInBounds j u) {cls:=.type "list",data:=.seq its.toArray n}={cls:=.type "list",data:=.seq (its.set j u).toArray n}:=by
 simp[Obj.mapSeq]
theorem Inv.lst{pins:List (Addr×Obj)}{σ:St}{H:Hp}{s:Shared}{p:Addr}{xs:List V}(I:Inv X pins σ H s)(h:H p=some (.lst xs)):
  ∃(its:List Value) (n:Nat),Vals xs its/\s.heap.get? p=some {cls:=.type "list",data:=.seq its.toArray n}/\xs.length<=sizeLine:=by
 obtain⟨z,its,n,r,e⟩:=I.hok p _ h
 exact⟨its,n,r,e,z⟩
theorem Inv.lstUpd{pins:List (Addr×Obj)}{σ:St}{H:Hp}{s:Shared}{p:Addr}{xs ys:List V}{its its':List Value}{n n':Nat}{f:Obj->Obj}(I:Inv X pins σ H s)(h:H p=some (.lst xs))
  (ho:s.heap.get? p=some {cls:=.type "list",data:=.seq its.toArray n}) (hf:f {cls:=.type "list",data:=.seq its.toArray n}={cls:=.type "list",data:=.seq its'.toArray n'}) (r:Vals ys its') (hz:ys.length<=sizeLine) (t:Nat):
  Inv X pins σ (upd H p (.lst ys)) {s with heap:=s.heap.update p f,toks:=t}:=by
 have e:(s.heap.update p f).get? p=some {cls:=.type "list",data:=.seq its'.toArray n'}:=by
  rw[cJ f ho (by rw[hf]<;>rfl),hf]
 refine I.write (x:=p) (e:=p) (by rw[h];trivial) (.inl rfl) (fun b u hb q=>(b9 _ _ (Ne.symm hb)).trans q) ⟨_,e⟩ ?_
 exact⟨hz,its',n',r,e⟩
noncomputable def aDX:V->V->V->Hp->(Hp->Prop)->Prop:=fun o i v H Q=>∃p xs k j,o=.ref p/\i=.int k/\H p=some (.lst xs)/\ixN xs.length k=some j/\Q (upd H p (.lst (xs.set j v)))
theorem ay8:aGY X aDX:=by
 intro pins s σ H o i v ov iv u Q I ro ri rv h
 obtain⟨p,xs,k,j,rfl,rfl,hp,hj,q⟩:=h
 cases ro
 obtain⟨t,rfl⟩:=ri
 obtain⟨its,n,r,ho,hz⟩:=I.lst hp
 obtain⟨h1,h2,h3,h4⟩:=avD hj
 have hl:=r.length
 have hn:=ahJ
 have I':Inv X pins σ (upd H p (.lst (xs.set j v))) {s with heap:=s.heap.update p (Obj.mapSeq (·.setIfInBounds j u))}:=
  I.lstUpd hp ho (as2 its n j u) (r.set rv j) (by rw[List.length_set];exact hz) s.toks
 by_cases h0:0<=k
 ·have hk:k.toNat=j:=by
   rw[seqIndex_of h0 h4] at h1
   exact a8 h1
  exact PySem.W.ki_setAt ho h0 (by omega) (by rw[bJ,←hl];exact h4) (by rw[hk];exact⟨_,I',q⟩)
 ·have hk:(k+(its.toArray.size:Int)).toNat=j:=by
   rw[seqIndex_neg (by omega) h3] at h1
   rw[bJ,←hl]
   exact a8 h1
  exact PySem.W.ki_setBack ho (by omega) (by rw[bJ,←hl];exact h3) (by omega) (by rw[hk];exact⟨_,I',q⟩)
theorem ao2(lo hi:Option Int)(n:Nat):(sliceBounds lo hi none n).1=((HT.sIx n 0 lo:Nat):Int)/\(sliceBounds lo hi none n).2.1=((HT.sIx n n hi:Nat):Int)/\(sliceBounds lo hi none n).2.2=1:=by
 refine⟨?_,?_,rfl⟩
 ·cases lo with
  |none=>simp[sliceBounds,HT.sIx]
  |some i=>
   simp only[sliceBounds,HT.sIx,Option.getD_none,show (1:Int)>0 by decide,if_true]
   by_cases h:i<0
   ·simp only[h,if_true]<;>omega
   ·simp only[h,if_false]<;>omega
 ·cases hi with
  |none=>simp[sliceBounds,HT.sIx]
  |some i=>
   simp only[sliceBounds,HT.sIx,Option.getD_none,show (1:Int)>0 by decide,if_true]
   by_cases h:i<0
   ·simp only[h,if_true]<;>omega
   ·simp only[h,if_false]<;>omega
theorem amH(its:List Value)(lo hi:Option Int):slicePick its.toArray lo hi none=((its.drop (HT.sIx its.length 0 lo)).take (HT.sIx its.length its.length hi-HT.sIx its.length 0 lo)).toArray:=by
 obtain⟨h1,h2,h3⟩:=ao2 lo hi its.toArray.size
 unfold slicePick
 rw[h1,h2,h3]
 simp only[sliceRange_one,pick_run,bJ]<;>rfl
noncomputable def aO4(K:FG):V->Option Int->Option Int->Hp->VK->Prop:=fun x lo hi H Q=>∃a xs,x=.ref a/\SqL K H a xs/\∀p,H p=none->Q (.ref p) (upd H p (.lst (aq2 xs lo hi)))
theorem aBZ:SlR X (aO4 X.K):=by
 intro pins s σ H x v vl vu lo hi sl Q I rx hs pl pu h
 obtain⟨a,xs,rfl,hx,q⟩:=h
 cases rx
 obtain⟨its,r,ht,hz⟩:=I.list hx
 have hlen:=r.length
 refine⟨"list",_,slot_list_getitem.lookup,ht.isList.typeIs,?_⟩
 refine wpAny_getItem_list_slice ht.isList hs pl pu .none (by simp) ?_ (by rw[bJ]<;>omega)
 rw[amH,←hlen]
 refine⟨.ref s.heap.objs.size,_,I.laid (t':=s.toks) (o:=.lst (aq2 xs lo hi)) (fun b ob q=>aW _ q) (aS _) ?_,rfl,q _ (I.hok.fresh (aS _))⟩
 exact⟨bO (ap6 xs lo hi) hz,_,0,(r.drop (HT.sIx xs.length 0 lo)).take (HT.sIx xs.length xs.length hi-HT.sIx xs.length 0 lo),bD _ rfl⟩
noncomputable def ae9:V->Bool
 |.non=>true
 |.bl _=>true
 |.int _=>true
 |.str _=>true
 |_=>false
noncomputable def eqV:V->V->Bool
 |.non,.non=>true
 |.bl a,.bl b=>a==b
 |.bl a,.int b=>(if a then 1 else 0)==b
 |.int a,.bl b=>a==(if b then 1 else 0)
 |.int a,.int b=>a==b
 |.str a,.str b=>a==b
 |_,_=>false
theorem aGG{A:Around}{s:Shared}{y x:V}{u v:Value}(ry:RelV y u)(rx:RelV x v)(fy:ae9 y=true)(fx:ae9 x=true):SeqAt.EqAt A s u v (eqV y x):=by
 cases y with
 |non=>
  cases ry
  cases x with
  |non=>cases rx;exact SeqAt.EqAt.same _
  |bl b=>cases rx;exact SeqAt.EqAt.none_bool b
  |int b=>obtain⟨t,rfl⟩:=rx;exact SeqAt.EqAt.none_int b t
  |str b=>obtain⟨t,rfl⟩:=rx;exact SeqAt.EqAt.none_str b t
  |_=>exact absurd (show false=true from fx) bB
 |bl a=>
  cases ry
  cases x with
  |non=>cases rx;exact SeqAt.EqAt.bool_none a
  |bl b=>cases rx;exact SeqAt.EqAt.bool_bool a b
  |int b=>obtain⟨t,rfl⟩:=rx;exact SeqAt.EqAt.bool_int a b t
  |str b=>obtain⟨t,rfl⟩:=rx;exact SeqAt.EqAt.bool_str a b t
  |_=>exact absurd (show false=true from fx) bB
 |int a=>
  obtain⟨t',rfl⟩:=ry
  cases x with
  |non=>cases rx;exact SeqAt.EqAt.int_none a t'
  |bl b=>cases rx;exact SeqAt.EqAt.int_bool a t' b
  |int b=>obtain⟨t,rfl⟩:=rx;exact SeqAt.EqAt.int_int a t' b t
  |str b=>obtain⟨t,rfl⟩:=rx;exact SeqAt.EqAt.int_str a t' b t
  |_=>exact absurd (show false=true from fx) bB
 |str a=>
  obtain⟨t',rfl⟩:=ry
  cases x with
  |non=>cases rx;exact SeqAt.EqAt.str_none a t'
  |bl b=>cases rx;exact SeqAt.EqAt.str_bool a t' b
  |int b=>obtain⟨t,rfl⟩:=rx;exact SeqAt.EqAt.str_int a t' b t
  |str b=>obtain⟨t,rfl⟩:=rx;exact SeqAt.EqAt.str_str a t' b t
  |_=>exact absurd (show false=true from fx) bB
 |_=>exact absurd (show false=true from fy) bB
noncomputable def eqU(x:V)(u:Value):Bool:=match u with
 |.none=>eqV .non x
 |.bool b=>eqV (.bl b) x
 |.int i _=>eqV (.int i) x
 |.str z _=>eqV (.str z) x
 |_=>false
theorem ayW{x y:V}{u:Value}(r:RelV y u)(f:ae9 y=true):eqU x u=eqV y x:=by
 cases y with
 |non=>cases r;rfl
 |bl b=>cases r;rfl
 |int i=>obtain⟨t,rfl⟩:=r;rfl
 |str z=>obtain⟨t,rfl⟩:=r;rfl
 |_=>exact absurd (show false=true from f) bB
theorem aoH{x:V}:∀{xs:List V} {us:List Value},Vals xs us->xs.all ae9=true->us.any (eqU x)=xs.any fun y=>eqV y x
 |_,_,.nil,_=>rfl
 |y::xs,u::us,.cons r t,f=>by
  rw[List.all_cons,bF] at f
  rw[bN,bN,ayW r f.1,aoH t f.2]
theorem akZ{A:Around}{s:Shared}{x:V}{v:Value}(rx:RelV x v)(fx:ae9 x=true):∀{xs:List V} {us:List Value},Vals xs us->xs.all ae9=true->∀u∈us,SeqAt.EqAt A s u v (eqU x u)
 |_,_,.nil,_=>fun u hu=>by cases hu
 |y::xs,u::us,.cons r t,f=>fun u' hu=>by
  rw[List.all_cons,bF] at f
  rcases aY.mp hu with rfl | hu
  ·rw[ayW r f.1];exact aGG r rx f.1 fx
  ·exact akZ rx fx t f.2 u' hu
noncomputable def inV(x:V)(xs:List V):Bool:=xs.any fun y=>eqV y x
noncomputable def rIn(K:FG)(neg:Bool):R2:=fun x y H Q=>∃p xs,y=.ref p/\(SqL K H p xs∨SqT K H p xs)/\ae9 x=true/\xs.all ae9=true/\Q (.bl (if neg then !inV x xs else inV x xs)) H
theorem axQ:OpR X (compareOp .In) (rIn X.K false):=by
 intro pins s σ H x y v u Q I rx ry h
 obtain⟨p,xs,rfl,hq,fx,fs,q⟩:=h
 cases ry
 rcases hq with hq | hq
 ·obtain⟨its,r,pl,hz⟩:=I.list hq
  refine SeqAt.in_listAt (eqU x) pl.isList (fun w hw=>akZ rx fx r fs w (by simpa using hw)) ⟨.bl _,H,I,rfl,?_⟩
  rw[show its.toArray.any (eqU x)=its.any (eqU x) by simp,aoH r fs]
  exact q
 ·obtain⟨its,r,pl,hz⟩:=I.tuple hq
  refine SeqAt.in_tupleAt (eqU x) pl (fun w hw=>akZ rx fx r fs w (by simpa using hw)) ⟨.bl _,H,I,rfl,?_⟩
  rw[show its.toArray.any (eqU x)=its.any (eqU x) by simp,aoH r fs]
  exact q
theorem aoR:adP X (.builtin "len") (fun xs H Q=>∃p ys,xs=[.ref p]/\(SqL X.K H p ys∨SqT X.K H p ys)/\Q (.int ys.length) H):=by
 intro pins s σ H xs us Q I r h
 obtain⟨p,ys,rfl,hq,q⟩:=h
 obtain⟨u,rfl,rx⟩:=acE r
 cases rx
 have hn:=ahJ
 rcases hq with hq | hq
 ·obtain⟨its,r',pl,hz⟩:=I.list hq
  have hlen:=r'.length
  exact Calls.call_len_list pl.isList (by simp only[bJ]<;>omega) ⟨.int ys.length,H,I.tok _,⟨s.toks+1,by rw[bJ,hlen]⟩,q⟩
 ·obtain⟨its,r',pl,hz⟩:=I.tuple hq
  have hlen:=r'.length
  exact len_tuple pl (by simp only[bJ]<;>omega) ⟨.int ys.length,H,I.tok _,⟨s.toks+1,by rw[bJ,hlen]⟩,q⟩
theorem aoL:adP X (.builtin "len") (fun xs H Q=>∃z,xs=[.str z]/\z.length<=sizeLine/\Q (.int z.length) H):=by
 intro pins s σ H xs us Q I r h
 obtain⟨z,rfl,hz,q⟩:=h
 obtain⟨u,rfl,t,rfl⟩:=acE r
 have hn:=ahJ
 exact len_str (by omega) ⟨.int z.length,H,I.tok _,⟨_,rfl⟩,q⟩
noncomputable def tyV(K:FG)(T:String)(x:V)(H:Hp):Prop:=match x with
 |.str _=>T="str"
 |.int _=>T="int"
 |.ref p=>(T="list"/\∃xs,SqL K H p xs)∨(T="tuple"/\∃o,K.lookup p=some o/\o.cls=.type "tuple"/\o.dict=none)∨
   (T="dict"/\((∃kvs,H p=some (.dK kvs))∨∃kvs,H p=some (.dT kvs)))∨(T="set"/\∃S n,H p=some (.set S n))
 |_=>False
theorem azD{pins:List (Addr×Obj)}{σ:St}{H:Hp}{s:Shared}{T:String}{x:V}{v:Value}(I:Inv X pins σ H s)(r:RelV x v)(ty:tyV X.K T x H):
  s.TypeIs v T/\∀a,v=.ref a->∃ob,s.heap.get? a=some ob/\ob.dict=none:=by
 cases x with
 |str z=>
  obtain⟨t,rfl⟩:=r
  cases (show T="str" from ty)
  exact⟨typeIs_str s z t,fun _ e=>nomatch e⟩
 |int i=>
  obtain⟨t,rfl⟩:=r
  cases (show T="int" from ty)
  exact⟨typeIs_int s i t,fun _ e=>nomatch e⟩
 |ref p=>
  cases r
  rcases ty with ⟨rfl,xs,hq⟩ | ⟨rfl,o,hk,hc,hd⟩ | ⟨rfl,hk⟩ | ⟨rfl,S,n,hk⟩
  ·obtain⟨its,_,pl,_⟩:=I.list hq
   refine⟨pl.isList.typeIs,fun a e=>?_⟩
   cases e
   obtain⟨o,n,e,c,hd,_⟩:=pl
   exact⟨o,e,hd⟩
  ·refine⟨⟨o,I.kIn p o hk,hc⟩,fun a e=>?_⟩
   cases e
   exact⟨o,I.kIn _ o hk,hd⟩
  ·have z:∃o,s.heap.get? p=some o/\o.ExactDict:=by
    rcases hk with ⟨kvs,hk⟩ | ⟨kvs,hk⟩
    ·obtain⟨_,_,_,_,o,_,_,e,ex,_⟩:=I.hok p _ hk
     exact⟨o,e,ex⟩
    ·obtain⟨_,_,_,_,o,_,_,e,ex,_⟩:=I.hok p _ hk
     exact⟨o,e,ex⟩
   obtain⟨o,e,ex⟩:=z
   refine⟨⟨o,e,ex.1⟩,fun a e2=>?_⟩
   cases e2
   exact⟨o,e,ex.2.1⟩
  ·obtain⟨o,_,_,_,e,ex,_⟩:=I.hok p _ hk
   refine⟨⟨o,e,ex.1⟩,fun a e2=>?_⟩
   cases e2
   exact⟨o,e,ex.2.1⟩
 |_=>exact False.elim ty
noncomputable def aIP(K:FG)(T:String)(r:V->List V->Hp->VK->Prop)(to:TE):TE:=fun σ H Q=>to σ H fun x H1=>tyV K T x H1/\r x [] H1 Q
noncomputable def tBM(K:FG)(T:String)(r:V->List V->Hp->VK->Prop)(to:TE)(t:TA):TE:=fun σ H Q=>to σ H fun x H1=>tyV K T x H1/\t σ H1 fun xs H2=>r x xs H2 Q
variable{o e:Expr}{es:List Expr}{to:TE}{t:TA}{name:Str}{apos cpos:Pos}{T id:String}{r:V->List V->Hp->VK->Prop}
theorem aFF(pa:PlainAttrs T)(slot:Slot T name id)(hty:typeOf (.builtin id)=pure (.type "method_descriptor"))(hm:MtR X id r)(ho:PE X o to)
  (hbase:attributeBase o name X.env (eval o X.env)=eval o X.env:=by rfl) (hline:(apos.endLine==cpos.line)=true:=by rfl):PE X (.Call (.Attribute o name apos) [] [] cpos) (aIP X.K T r to):=by
 intro pins s σ H Q I h
 refine wpAny_Call_method0_late hbase hline (thn (ho pins s σ H _ I h) fun v s1 ⟨x,H1,I1,r1,ty,q1⟩=>?_)
 obtain⟨h1,h2⟩:=azD I1 r1 ty
 exact⟨T,id,pa,slot,hty,h1,h2,Calls.callWith_builtin rfl (PySem.evalArgs_none (hm pins s1 σ H1 x [] v [] Q I1 r1 .nil q1))⟩
theorem arR(pa:PlainAttrs T)(slot:Slot T name id)(hty:typeOf (.builtin id)=pure (.type "method_descriptor"))(hm:MtR X id r)(ho:PE X o to)(ha:PA X (e::es) t)
  (hbase:attributeBase o name X.env (eval o X.env)=eval o X.env:=by rfl)
  (hfew:((backTo cpos (starEach (e::es) X.env)).all (fun x=> !x.1)&&(backToKw cpos (keywordEach [] X.env)).all (fun x=>x.1.isSome)
   &&decide ((e::es).length+([]:List Keyword).length+(if ([]:List Keyword).isEmpty then 0 else 1)<30))=true:=by rfl)
  (hline:(apos.endLine==cpos.line)=true:=by rfl) (hs:starEach (e::es) X.env=(false,eval e X.env)::starEach es X.env:=by rfl) (hplain:(backTo cpos (starEach es X.env)).any (·.1)=false:=by rfl):
  PE X (.Call (.Attribute o name apos) (e::es) [] cpos) (tBM X.K T r to t):=by
 intro pins s σ H Q I h
 refine wpAny_Call_method_late hbase hfew hline rfl (thn (ho pins s σ H _ I h) fun v s1 ⟨x,H1,I1,r1,ty,q1⟩=>?_)
 obtain⟨h1,h2⟩:=azD I1 r1 ty
 refine⟨T,id,pa,slot,hty,h1,h2,?_⟩
 have hA:=ha cpos pins s1 σ H1 _ I1 q1
 rw[hs] at hA ⊢
 refine Calls.callWith_builtin (by show (false||(backTo cpos (starEach es X.env)).any (·.1))=false;rw[hplain]<;>rfl) (Calls.evalArgs_plain ?_)
 exact thn hA fun us s2 ⟨vs,H2,I2,r2,q2⟩=>hm pins s2 σ H2 x vs v us Q I2 r1 r2 q2
end
noncomputable def MtM(X:Cx)(id:String)(r:V->List V->Hp->VK->Prop):Prop:=
 ∀(pins:List (Addr×Obj)) (s:Shared) (σ:St) (H:Hp) (x:V) (xs:List V) (v:Value) (us:List Value) (Q:VK),Inv X pins σ H s->RelV x v->Vals xs us->r x xs H Q->
  wpAny (model X.prog X.w) X.A (call (.builtin id) (v::us)) (EP X pins σ Q) X.xe s
theorem Vals.one:∀{x:V} {us:List Value},Vals [x] us->∃u,us=[u]/\RelV x u
 |_,_,.cons r .nil=>⟨_,rfl,r⟩
section
variable{X:Cx}{pins:List (Addr×Obj)}{σ:St}{H:Hp}{s:Shared}{l b:Addr}{xs ys zs:List V}
theorem Inv.lset{its its':List Value}{n:Nat}{f:Array Value->Array Value}{t':Nat}(I:Inv X pins σ H s)(hH:H l=some (.lst xs))
  (e:s.heap.get? l=some {cls:=.type "list",data:=.seq its.toArray n}) (hf:f its.toArray=its'.toArray) (hv:Vals ys its') (hz:ys.length<=sizeLine):
  Inv X pins σ (upd H l (.lst ys)) {s with heap:=s.heap.update l (Obj.mapSeq f),toks:=t'}:=by
 have q:=PySem.IsL.update e f
 rw[hf] at q
 refine I.write (x:=l) (e:=l) (by rw[hH];exact trivial) (.inl rfl) (fun b' u hb hu=>(b9 s.heap (Obj.mapSeq f) (Ne.symm hb)).trans hu) ⟨_,q⟩ ?_
 exact⟨hz,its',_,hv,q⟩
theorem Inv.lnew{its:List Value}{t':Nat}(I:Inv X pins σ H s)(hv:Vals ys its)(hz:ys.length<=sizeLine):
  Inv X pins σ (upd H s.heap.objs.size (.lst ys)) {s with heap:=s.heap.push {cls:=.type "list",data:=.seq its.toArray},toks:=t'}:=
 I.laid (fun _ _ q=>aW _ q) (aS _) ⟨hz,its,0,hv,bD _ rfl⟩
theorem Inv.fresh(I:Inv X pins σ H s):H s.heap.objs.size=none:=I.hok.fresh (aS _)
theorem Inv.lstM(I:Inv X pins σ H s)(hH:H l=some (.lst xs)):xs.length<=sizeLine/\∃(its:List Value) (n:Nat),Vals xs its/\xs.length=its.length/\s.heap.get? l=some {cls:=.type "list",data:=.seq its.toArray n}:=by
 obtain⟨z,its,n,r,e⟩:=I.hok l _ hH
 exact⟨z,its,n,r,r.length,e⟩
end
section
variable{X:Cx}
noncomputable def au6:V->List V->Hp->VK->Prop:=fun x vs H Q=>∃l xs y,x=.ref l/\vs=[y]/\H l=some (.lst xs)/\xs.length<sizeLine/\Q .non (upd H l (.lst (xs++[y])))
theorem ahE:MtM X "list.append" au6:=by
 intro pins s σ H x vs v us Q I rx rv h
 obtain⟨l,xs,y,rfl,rfl,hH,hz,q⟩:=h
 cases rx
 obtain⟨u,rfl,ru⟩:=rv.one
 obtain⟨z,its,n,r,hl,e⟩:=I.lstM hH
 refine call_meets F.slot_list_append ⟨_,e,rfl⟩ F.entry_list_append (F.args_list_append_2 _ _) (PySem.list_append l its.toArray n u (by rw[bJ];omega)) ⟨e,?_⟩
 refine⟨.non,_,I.lset (its':=its++[u]) hH e (by simp) (r.append (.cons ru .nil)) ?_,rfl,q⟩
 rw[bC,cL]
 omega
noncomputable def aI0:R2:=fun x y H Q=>∃l b xs zs,x=.ref l/\y=.ref b/\H l=some (.lst xs)/\H b=some (.lst zs)/\xs.length+zs.length<=sizeLine/\∀p,H p=none->Q (.ref p) (upd H p (.lst (xs++zs)))
theorem aE0:OpR X (binaryOp .Add) aI0:=by
 intro pins s σ H x y v u Q I rx ry h
 obtain⟨l,b,xs,zs,rfl,rfl,hH,hB,hz,q⟩:=h
 cases rx
 cases ry
 obtain⟨z,its,n,r,hl,e⟩:=I.lstM hH
 obtain⟨z2,its2,n2,r2,hl2,e2⟩:=I.lstM hB
 refine PySem.P.add_list e e2 ?_ (by rw[bJ,bJ];omega)
 have ea:its.toArray++its2.toArray=(its++its2).toArray:=by simp
 rw[ea]
 exact⟨.ref _,_,I.lnew (t':=s.toks) (r.append r2) (by rw[bC];omega),rfl,q _ I.fresh⟩
end
section
variable{prog:Program}{w:World}{A:Around}{E:Value->Shared->Prop}{s:Shared}
end
section
variable{X:Cx}
end
end L2
namespace Att
open PySem PySem.W PySem.Calls PyProof.Rows
theorem ajE{P:Params}{h:Heap}:∀(ns:List Int) (vs:List Value),WellAll P h vs (ns.map WData.int)->IntsAre vs ns:=by
 intro ns
 induction ns with
 |nil=>
  intro vs w
  rw[List.map_nil] at w
  cases w
  exact .nil
 |cons n ns ih=>
  intro vs w
  rw[List.map_cons] at w
  cases w with
  |cons a b=>
   cases a
   exact .cons _ _ (ih _ b)
theorem awT{l:OpenLaw}{n:Nat}(hn:l.most=some n){P:Params}{h:Heap}{args:List WData}{vals:List Value}
  (hpre:l.row.toRowW.claim.pre args=true) (hwl:WellAll P h vals args):
  ∃a vs ns,vals=[Value.ref a]/\args=[WData.list (ns.map WData.int)]/\h.get? a=some {cls:=.type "list",data:=.seq vs.toArray}/\IntsAre vs ns/\ns.length<=n:=by
 have hsh:WShape.hasAll [] args [.list .int]=true:=(pre_splitW hpre).1
 have hc:l.pre.holds [] {args:=args}=true:=(pre_splitW hpre).2
 obtain⟨d,r,rfl,h1,h2⟩:=hasAllW_cons hsh
 obtain rfl:=hasAllW_nil h2
 obtain⟨xs,rfl,h3⟩:=hasW_list h1
 obtain⟨ns,rfl⟩:=items_int h3
 have hlen:ns.length<=n:=by
  unfold OpenLaw.pre at hc
  have h4:(WTm.not (.lt (.lit (.int (n:Int))) (.len (.arg 0)))).holds [] {args:=[.list (ns.map .int)]}=true:=by
   have h4:=(holds_andW hc).1
   rw[hn] at h4
   exact h4
  have h5:=condW_of h4 (w_not (w_lt w_lit (w_len_list (w_arg rfl))))
  rw[List.length_map] at h5
  refine Nat.le_of_not_lt fun q=>?_
  have q':(n:Int)<((ns.length:Nat):Int):=by omega
  first
   |(rw[decide_eq_true q'] at h5;exact absurd h5 (by decide))
   |(simp at h5;omega)
 cases hwl with
 |cons w1 w2=>
  cases w2
  cases w1 with
  |list ho hall=>exact⟨_,_,ns,rfl,rfl,ho,ajE ns _ hall,hlen⟩
theorem awW(l:OpenLaw)(args:List WData):l.row.toRowW.claim.post args (.bool true) args=true:=
 postW_of (r:=l.row.toRowW) (X:=(true==true))
  (show WShape.has [] (.bool true) .bool=true by first | rfl | decide | simp[WShape.has,WShape.arms,WShape.armsAll])
  (show (WTm.eq .res (.lit (.bool true))).value [] {args:=args,res:=some (.bool true),after:=args}=some (.bool (true==true)) from w_eq_bool (w_res rfl) w_lit) rfl
theorem attach_call{l:OpenLaw}{n:Nat}{q:Program}{loose:List Str}{XP:(Str->Option Value)->Heap->Prop}{YP:World->Heap->Prop}{d:DefRec}
  (hn:l.most=some n) (hdf:d.params.defaults=[])
  (call:∀(w:World) (s₀ s₁:Shared) (mg mb:Str->Option Value) (fa:Addr) (o:Obj) (pm cd doc:Value) (a:Addr) (vs:List Value) (ns:List Int),
   Ground q loose [] XP w s₀ mg mb s₁.heap->YP w s₁.heap->
   s₁.heap.get? fa=some o->o.data=.func (docDef d.name d.params d.body d.scope pm cd doc)->s₁.heap.CodeRec cd d.name->mg d.name=some (.ref fa)->
   s₁.heap.get? a=some {cls:=.type "list",data:=.seq vs.toArray}->IntsAre vs ns->ns.length<=n->s₁.gens= #[]->
   codeAny (model l.prog w) callerA (.call (.ref fa) ⟨[.ref a],[]⟩) (fun r s'=>r=.ok (.ret (.bool true))/\OldK s₁.heap s'.heap/\s'.os=s₁.os/\AllBare s'.gens) s₁):
  WalkO q loose XP YP l.row.toRowW d [] (fun f vs=>PySem.call f vs):=by
 intro w s₀ s₁ mg mb G Y fa o pm cd doc dV kV ho hd hcd hD hmg hg args vals as hpre hlay hrd hwl hlo
 obtain rfl:dV=.none:=Dflts.none hD hdf
 obtain rfl:kV=.none:=Dflts.noKw hD
 obtain⟨a,vs,ns,rfl,rfl,hobj,hints,hlen⟩:=awT hn hpre hwl
 refine enter_call (codeAny_mono (call w s₀ s₁ mg mb fa o pm cd doc a vs ns G Y ho (fd_plain hd) hcd hmg hobj hints hlen hg) fun r s' hq=>?_)
 obtain⟨rfl,h2,h3,h4⟩:=hq
 exact⟨.inl ⟨.bool true,.bool true,[],rfl,fun _=>rfl,.bool true,awW l _,fun _=>⟨List.Pairwise.nil,fun _ hm=>(nomatch hm)⟩⟩,h2,h3,h4⟩
section
variable{prog:Program}{w:World}{A:Around}{E:Value->Shared->Prop}{s:Shared}{K:Frag}
end
end Att
namespace L2
open PySem PySem.Spec PyProof.Rows
theorem ahV:∀{vs:List Value} {ns:List Int},IntsAre vs ns->Vals (ns.map V.int) vs
 |_,_,.nil=>.nil
 |_,_,.cons n t h=>.cons ⟨t,rfl⟩ (ahV h)
noncomputable def aa6(s:Stmt)(j:Nat):Stmt:=match s with
 |.ClassDef _ _ _ body _ _ _ _ _ _ _=>body.getD j (.Pass ⟨0,0,0,0⟩)
 |_=>.Pass ⟨0,0,0,0⟩
noncomputable def aa5(s:Stmt):Arguments:=match s with
 |.FunctionDef _ a _ _ _ _ _ _ _ _=>a
 |_=>{posonlyargs:=[],args:=[],vararg:=none,kwonlyargs:=[],kw_defaults:=[],kwarg:=none,defaults:=[]}
noncomputable def aaV(s:Stmt):List Stmt:=match s with
 |.FunctionDef _ _ b _ _ _ _ _ _ _=>b
 |_=>[]
noncomputable def aaC(s:Stmt):Scope:=match s with
 |.FunctionDef _ _ _ _ _ _ sc _ _ _=>sc
 |_=>{kind:=.function,names:=[],isGenerator:=false,isCoroutine:=false}
noncomputable abbrev CX0:CXT:=fun _ _ _ _ _ _=>False
noncomputable abbrev E0:XK:=fun _ _ _=>False
theorem apW{X:Cx}:afX CX0 X E0:=fun _ _ _ _ _ _ _ h=>h.elim
structure Fun(K:FG)(x qual:Str)(st:Stmt)(f:Addr)(fd:FuncData):Prop where
 ex:∃(oc:Value) (od:Option Addr) (kV doc pm:Value) (an:Option Addr) (cdv ct:Value) (osl:Array (Option Value)),
  fd=PySem.W.fnOf x qual (aa5 st) (aaV st) (aaC st) .none kV doc pm an cdv ct/\K.lookup f=some ⟨oc,od,.func fd,osl⟩/\PySem.W.codeIn K cdv qual=true
 kp:PySem.W.keepIn K (.ref f)=true
section
variable{P:Program}{w:World}{K:FG}{mg:Str->Option Value}{base:Heap}
theorem Fun.ok{x qual:Str}{st:Stmt}{f:Addr}{fd:FuncData}{N ps:List Str}{k:Nat}{sp:Sp}(F:Fun K x qual st f fd)(S:FnScope N ps (aaC st))(len:∀vs H Q E,sp vs H Q E->vs.length=ps.length)
  (hbody:∀(cdv:Value) (A:Around) (outer:List Env) (s:Shared) (H:Hp) (vs:List V) (Q:VK) (E:XK),Room k (A.deeper (envOfC qual (aaC st) s.heap.objs.size f cdv))->sp vs H Q E->
   ∃t,PSs (ai2 CX0 P w K mg base N qual (aaC st) f cdv A outer s H E).nox (aaV st) t/\t {nx:=fun _ H'=>Q .non H',rt:=Q} (start N vs) H):FnOk P w K mg base CX0 (k+1) f fd ps sp:=by
 obtain⟨oc,od,kV,doc,pm,an,cdv,ct,osl,rfl,lk,hcd⟩:=F.ex
 refine azL lk hcd S len fun A outer s H vs Q E hr hsp=>?_
 obtain⟨t,h,q⟩:=hbody cdv A outer s H vs Q E hr hsp
 exact⟨t,h.nox,q⟩
theorem Fun.binds{x qual:Str}{st:Stmt}{f:Addr}{fd:FuncData}{ps:List Str}(F:Fun K x qual st f fd)
  (h:∀(kV doc pm:Value) (an:Option Addr) (cdv ct:Value) (us:List Value),us.length=ps.length->bindArgs (PySem.W.fnOf x qual (aa5 st) (aaV st) (aaC st) .none kV doc pm an cdv ct) ⟨us,[]⟩=pure (ps.zip us)):Binds K fd ps []:=by
 obtain⟨oc,od,kV,doc,pm,an,cdv,ct,osl,rfl,lk,hcd⟩:=F.ex
 exact .all (h kV doc pm an cdv ct)
theorem apM{x qual:Str}{st:Stmt}{f:Addr}{oc:Value}{od an:Option Addr}{osl:Array (Option Value)}{kV doc pm cdv ct:Value}(l:K.lookup f=some ⟨oc,od,.func (PySem.W.fnOf x qual (aa5 st) (aaV st) (aaC st) .none kV doc pm an cdv ct),osl⟩)
  (c:PySem.W.codeIn K cdv qual=true) (k:PySem.W.keepIn K (.ref f)=true):Fun K x qual st f (PySem.W.fnOf x qual (aa5 st) (aaV st) (aaC st) .none kV doc pm an cdv ct):=⟨⟨oc,od,kV,doc,pm,an,cdv,ct,osl,rfl,l,c⟩,k⟩
end
section
variable{X:Cx}
end
theorem aa1{A B:Prop}(h:B):if false=true then A else B:=by
 rw[if_neg bB]
 exact h
theorem abF{A B:Prop}(h:A):if true=true then A else B:=by
 rw[if_pos rfl]
 exact h
theorem aE3{c A B:Prop}[Decidable c](h1:c->A)(h2:¬c->B):if c then A else B:=by
 by_cases h:c
 ·rw[if_pos h]
  exact h1 h
 ·rw[if_neg h]
  exact h2 h
noncomputable def Same(H H':Hp):Prop:=∀b o,H b=some o->H' b=some o
theorem Same.refl(H:Hp):Same H H:=fun _ _ h=>h
theorem Same.trans{H H1 H2:Hp}(a:Same H H1)(b:Same H1 H2):Same H H2:=fun c o h=>b c o (a c o h)
theorem Same.free{H H':Hp}(e:Same H H'){l:Addr}(h:H' l=Option.none):H l=Option.none:=by
 cases q:H l with
 |none=>rfl
 |some o=>
  rw[e l o q] at h
  cases h
theorem Same.seq{K:FG}{H H':Hp}{a:Addr}{xs:List V}(e:Same H H')(h:SqL K H a xs):SqL K H' a xs:=by
 rcases h with (h | ⟨o,h⟩) | h
 ·exact .inl (.inl (e _ _ h))
 ·exact .inl (.inr ⟨o,e _ _ h⟩)
 ·exact .inr h
section
variable{X:Cx}
theorem atF:adP X (.builtin "isinstance") (fun xs H Q=>∃i:Int,xs=[.int i,.ty "int"]/\Q (.bl true) H):=by
 intro pins s σ H xs us Q I r h
 obtain⟨i,rfl,q⟩:=h
 obtain⟨u,w',rfl,⟨t,rfl⟩,r2⟩:=apY r
 cases r2
 exact PySem.IsiPair.int_int ⟨.bl true,H,I,rfl,q⟩
theorem as7:adP X (.builtin "isinstance") (fun xs H Q=>∃i:Int,xs=[.int i,.ty "bool"]/\Q (.bl false) H):=by
 intro pins s σ H xs us Q I r h
 obtain⟨i,rfl,q⟩:=h
 obtain⟨u,w',rfl,⟨t,rfl⟩,r2⟩:=apY r
 cases r2
 exact PySem.IsiPair.int_bool ⟨.bl false,H,I.tok _,rfl,q⟩
end
structure Df(P:Program)(w:World)(K:FG)(mg:Str->Option Value)(base:Heap)(x:Str)(k:Nat)(ps:List Str)(sp:Sp):Prop where
 ex:∃(f:Addr) (fd:FuncData),FnOk P w K mg base CX0 k f fd ps sp/\Binds K fd ps []/\mg x=some (.ref f)/\PySem.W.keepIn K (.ref f)=true
structure Fn(K:FG)(mg:Str->Option Value)(x:Str)(st:Stmt)(ps:List Str):Prop where
 ex:∃(f:Addr) (fd:FuncData),Fun K x x st f fd/\Binds K fd ps []/\mg x=some (.ref f)
section
variable{P:Program}{w:World}{K:FG}{mg:Str->Option Value}{base:Heap}{x:Str}{st:Stmt}{ps N:List Str}{k:Nat}{sp:Sp}
theorem Fn.df(F:Fn K mg x st ps)(S:FnScope N ps (aaC st))(len:∀vs H Q E,sp vs H Q E->vs.length=ps.length)
  (hbody:∀(f:Addr) (cdv:Value) (A:Around) (outer:List Env) (s:Shared) (H:Hp) (vs:List V) (Q:VK) (E:XK),Room k (A.deeper (envOfC x (aaC st) s.heap.objs.size f cdv))->sp vs H Q E->
   ∃t,PSs (ai2 CX0 P w K mg base N x (aaC st) f cdv A outer s H E).nox (aaV st) t/\t {nx:=fun _ H'=>Q .non H',rt:=Q} (start N vs) H):Df P w K mg base x (k+1) ps sp:=by
 obtain⟨f,fd,F1,hb,hm⟩:=F.ex
 exact⟨⟨f,fd,F1.ok S len (hbody f),hb,hm,F1.kp⟩⟩
theorem aaK{h:Heap}{f:Addr}{oc:Value}{od an:Option Addr}{osl:Array (Option Value)}{kV doc pm cdv ct:Value}(X:K.In h)(G:h.Ns mainGlobals mg)
  (a:PySem.W.nsIn K mainGlobals x=some (some (.ref f))) (l:K.lookup f=some ⟨oc,od,.func (PySem.W.fnOf x x (aa5 st) (aaV st) (aaC st) .none kV doc pm an cdv ct),osl⟩)
  (c:PySem.W.codeIn K cdv x=true) (k:PySem.W.keepIn K (.ref f)=true)
  (hb:∀(kV doc pm:Value) (an:Option Addr) (cdv ct:Value) (us:List Value),us.length=ps.length->bindArgs (PySem.W.fnOf x x (aa5 st) (aaV st) (aaC st) .none kV doc pm an cdv ct) ⟨us,[]⟩=pure (ps.zip us)):Fn K mg x st ps:=by
 have F:=apM (st:=st) l c k
 exact⟨⟨f,_,F,F.binds (ps:=ps) hb,PySem.W.mg_of X G a⟩⟩
end
section
variable{X:Cx}
theorem ax3{x:Str}{k k':Nat}{ps:List Str}{sp:Sp}{e:Expr}{es:List Expr}{t:TA}{p pos:Pos}(D:Df X.prog X.w X.K X.mg X.base x k ps sp)(hr:Room k' X.A)(ha:PA X (e::es) t)(hk:k<=k':=by decide)(hg:Gl X x:=by rfl)
  (hdb:(x==("__debug__":Str))=false:=by decide) (he:starEach (e::es) X.env=(false,eval e X.env)::starEach es X.env:=by rfl) (hpl:(backTo pos (starEach es X.env)).any (·.1)=false:=by rfl):
  PE X (.Call (.Name x p) (e::es) [] pos) (auJ sp [] E0 t):=by
 obtain⟨f,fd,F,hb,hm,kp⟩:=D.ex
 exact aAU F (hr.mono hk) hg hm kp hb .nil apW ha hdb he hpl
end
theorem aaB{H:Hp}{p:Addr}(h:H p=none)(o:HO):Same H (upd H p o):=fun b u q=>by rw[aaF (aaG q h)];exact q
theorem int_eq{a b:Int}:(V.int a=V.int b)↔a=b:=⟨fun h=>V.int.inj h,fun h=>by rw[h]⟩
theorem ifI{a b:Int}{A B:Prop}(h1:a=b->A)(h2:¬a=b->B):if decide (V.int a=V.int b)=true then A else B:=
 aE3 (fun c=>h1 (int_eq.mp (eA c))) (fun c=>h2 fun e=>c (eC (int_eq.mpr e)))
theorem aCS{a b:Int}{A B:Prop}(h1:¬a=b->A)(h2:a=b->B):if (!decide (V.int a=V.int b))=true then A else B:=by
 by_cases e:a=b
 ·rw[eC (int_eq.mpr e)];exact aa1 (h2 e)
 ·rw[eF fun q=>e (int_eq.mp q)];exact abF (h1 e)
theorem ifD{c:Prop}[Decidable c]{A B:Prop}(h1:c->A)(h2:¬c->B):if decide c=true then A else B:=
 aE3 (fun q=>h1 (eA q)) (fun q=>h2 fun e=>q (eC e))
theorem ifNe{a b:Int}{A B:Prop}(e:a=b)(h:B):if (!decide (V.int a=V.int b))=true then A else B:=by
 rw[eC (int_eq.mpr e)];exact aa1 h
noncomputable def aqG:Expr->Option Int
 |.Constant (.int i) _ _=>some i
 |_=>none
noncomputable def aC8(is:List Int):TA:=fun _ H Q=>Q (is.map V.int) H
theorem auY{X:Cx}:∀{es:List Expr} (is:List Int),es.map aqG=is.map some->PA X es (aC8 is)
 |[],[],_=>aeG
 |[],_::_,h=>by cases h
 |_::_,[],h=>by cases h
 |e::es,i::is,h=>by
  have h1:aqG e=some i:=(List.cons.inj h).1
  have h2:es.map aqG=is.map some:=(List.cons.inj h).2
  obtain⟨j,pos,rfl⟩:∃j pos,e=.Constant (.int i) j pos:=by
   unfold aqG at h1
   split at h1
   ·cases h1
    exact⟨_,_,rfl⟩
   ·cases h1
  exact acY ax8 (auY is h2)
structure Clos(X:Cx)(scope:Scope)(cl:List (Str×Addr)):Prop where
 is:closureFor scope X.env=pure cl
 sub:∀y c,cl.lookup y=some c->X.env.cells.lookup y=some c
 has:∀y,scope.names.lookup y=some .free->∃c,cl.lookup y=some c
 nocell:∀y∈scope.names,y.2≠ .cell
 kind:scope.kind=.function
 names:∀y∈scope.names,y.2=.local->scope.names.lookup y.1=some .local
noncomputable def aaN(X:Cx)(N:List Str)(scope:Scope)(cl:List (Str×Addr))(C:Addr)(ex:List Addr)(pins:List (Addr×Obj))(s:Shared)(H:Hp):Cx:=
 {X with N:=N,s₀:=s,H₀:=H,env:=compEnvC scope cl C X.env,outer:=X.stack,stack:=X.stack,ex:=ex,fn:=fun _=>false,pn:=X.pn++pins,xe:=fun _ _=>False}
noncomputable def aa3(js:List Nat)(σ:St):St:=js.map fun j=>(σ[j]?).getD none
noncomputable def au1(ifs:List Expr)(env:Env):Sem Bool:=
 forIn ifs true fun c r=>if r=true then (do let ok ←isTrue c env (eval c env);pure (ForInStep.yield ok)) else pure (ForInStep.yield r)
noncomputable def PF(X:Cx)(ifs:List Expr)(t:TT):Prop:=
 ∀(pins:List (Addr×Obj)) (s:Shared) (σ:St) (H:Hp) (Q:Bool->Hp->Prop),Inv X pins σ H s->t σ H Q->
  wpAny (model X.prog X.w) X.A (au1 ifs X.env) (TP X pins σ Q) X.xe s
noncomputable def aO5:TT:=fun _ H Q=>Q true H
theorem aFX{X:Cx}:PF X [] aO5:=fun _ _ _ H _ I h=>wpAny_tests_nil ⟨H,I,h⟩
theorem aE2{X:Cx}{c:Expr}{t:TT}(h:PT X c t):PF X [c] t:=fun pins s σ H Q I q=>wpAny_tests_one (h pins s σ H Q I q)
noncomputable def auN(J:It)(js:List Nat)(σ:St)(tt:TT)(te:TE)(Q:VK)(H1:Hp):Prop:=∀D,H1 D=none->∃W:Nat->Nat->Hp->Prop,(∃m,W 0 m (upd H1 D (.lst [])))/\∀i m H2,W i m H2->
 (J.stop i H2/\Q (.ref D) H2)∨(J.go i H2/\∀v H3,J.yld i H2 v H3->tt (some v::aa3 js σ) H3 fun b H4=>if b=true then
  te (some v::aa3 js σ) H4 fun y H5=>∃ys,H5 D=some (.lst ys)/\ys.length<sizeLine/\∃m',m'<m/\W (i+1) m' (upd H5 D (.lst (ys++[y])))
  else ∃m',m'<m/\W (i+1) m' H4)
noncomputable def azB(wi:TI)(js:List Nat)(tt:TT)(te:TE):TE:=fun σ H Q=>wi σ H fun J H1=>auN J js σ tt te Q H1
noncomputable def apK(env:Env)(n:Str)(k:NameKind):NameKind:=if (k==NameKind.free&&env.scope.kind== .function&&env.kindOf n==some .cell) then .cell else k
theorem aCX{env:Env}{n:Str}{k:NameKind}:(if (k==NameKind.free&&env.scope.kind== .function&&env.kindOf n==some .cell) then (n,NameKind.cell) else (n,k))=(n,apK env n k):=by
 unfold apK
 split<;>rfl
theorem ad4{env:Env}:∀(names:List (Str×NameKind)) (x:Str),(relabel {kind:=.function,names:=names,isGenerator:=false,isCoroutine:=false} env).names.lookup x=(names.lookup x).map (apK env x)
 |[],_=>rfl
 |(n,k)::r,x=>by
  have ih:=ad4 (env:=env) r x
  unfold relabel at ih ⊢
  dsimp only at ih ⊢
  rw[bG]
  dsimp only
  rw[aCX,dE,dE,ih]
  cases hx:x==n with
  |true=>
   have e:x=n:=by simpa using hx
   rw[e]
   rfl
  |false=>rfl
theorem adB{env:Env}(scope:Scope)(x:Str):(relabel scope env).names.lookup x=(scope.names.lookup x).map (apK env x):=ad4 scope.names x
theorem anH{env:Env}{x:Str}{o:Option NameKind}(hc:o≠some .cell)(h:o.map (apK env x)=some .cell∨o.map (apK env x)=some .free):o=some .free:=by
 cases o with
 |none=>rcases h with h | h<;>cases h
 |some k=>
  by_cases e:k=.free
  ·rw[e]
  ·have z:apK env x k=k:=by
    unfold apK
    have e':(k==NameKind.free)=false:=by simpa using e
    rw[e']
    rfl
   rw[dF,z] at h
   rcases h with h | h
   ·exact absurd h hc
   ·exact h
theorem af5{env:Env}{scope:Scope}{x:Str}(h:scope.names.lookup x=some .free):(relabel scope env).names.lookup x=some .cell∨(relabel scope env).names.lookup x=some .free:=by
 rw[adB,h,dF]
 unfold apK
 split
 ·exact .inl rfl
 ·exact .inr rfl
section
variable{X:Cx}{elt iter:Expr}{x:Str}{px pos:Pos}{ifs:List Expr}{scope:Scope}{cl:List (Str×Addr)}{N':List Str}{js:List Nat}{tt:TT}{te:TE}
theorem at6{pins:List (Addr×Obj)}{σ:St}{H:Hp}{s s4:Shared}{fp:List Addr}{C:Addr}{m4:Str->Option Value}(hcl:Clos X scope cl)(hN:js.map (fun j=>X.N[j]?)=N'.map some)
  (hk:N'.all (fun y=>(X.env.kindOf y==some .cell)||(X.env.kindOf y==some .free))=true) (hf:N'.all (fun y=>scope.names.lookup y==some .free)=true)
  (I:Inv X pins σ H s) (hfp:∀b∈fp,adF X pins H b/\b<s.heap.objs.size) (hC:C=s.heap.objs.size) (ho:s4.os=s.os) (hg:s4.gens=s.gens) (hkeep:∀b o,s.heap.get? b=some o->s4.heap.get? b=some o) (hn:s4.heap.Ns C m4):
  Inv (aaN X (x::N') scope cl C fp pins s H) [] (none::aa3 js σ) H s4:=by
 have hne:∀b o,s.heap.get? b=some o->b≠C:=fun b o e=>by rw[hC];exact aX (aV e)
 refine⟨⟨I.ok.mod,hcl.kind,I.ok.glob,I.ok.blt,Nat.le_of_eq hC.symm,fun y z c h1 h2=>I.ok.inj y z c (hcl.sub y c h1) (hcl.sub z c h2),fun y hy=>hcl.has y (anH (fun z=>hcl.nocell _ (PySem.mem_of_lookup z) rfl) (by rw[←adB];exact hy)),fun y c h _=>(nomatch h),I.ok.hd,I.ok.frames,.inl rfl,fun b hb=>⟨?_,fun y c e=>(hfp b hb).1.2.2.2.2.1 y c (hcl.sub y c e)⟩,
  I.bs,bO I.ok.bsz I.sz,fun b o e hb=>?_,fun b hb hz=>?_,I.stack,I.stkFree⟩,ho,by rw[hg];exact I.bare,Un.kept hkeep,⟨m4,hn,fun i y v h1 h2 h3=>?_⟩,fun y c e=>?_,?_,fun y c e=>I.freeC y c (hcl.sub y c e),fun p hp=>?_,I.hok.kept hkeep,?_⟩
 ·rw[hC];exact aX (hfp b hb).2
 ·rcases (hfp b hb).1.2.2.2.1 with z | z
  ·exact I.ok.noex b o e z
  ·exact absurd (a9 (aV e) (bO I.ok.bsz z)) (b8 _)
 ·rcases aY.mp (I.stkSub b hz) with z | z
  ·exact (hfp b hb).1.2.1 z
  ·exact (hfp b hb).1.2.2.1 z
 ·match i,h1,h2 with
  |0,_,h2=>exact nomatch h2
  |i+1,h1,h2=>
   have h1:N'[i]? =some y:=h1
   have h2:(aa3 js σ)[i]? =some (some v):=h2
   have hy:y∈N':=bI h1
   have q:(js.map (fun j=>X.N[j]?))[i]? =some (some y):=by rw[hN,bA,h1];rfl
   rw[bA] at q
   cases ej:js[i]? with
   |none=>rw[ej] at q;cases q
   |some j=>
    rw[ej] at q
    have q:X.N[j]? =some y:=a8 q
    unfold aa3 at h2
    rw[bA,ej] at h2
    have h2:(σ[j]?).getD none=some v:=a8 h2
    have h2:σ[j]? =some (some v):=by
     cases e:σ[j]? with
     |none=>rw[e] at h2;cases h2
     |some o=>rw[e] at h2;exact congrArg some h2
    have kk:=bZ.mp hk y hy
    have kk:X.env.kindOf y=some .cell∨X.env.kindOf y=some .free:=by simpa using kk
    have ff:=bZ.mp hf y hy
    have ff:scope.names.lookup y=some .free:=by simpa using ff
    obtain⟨m,_,hl⟩:=I.loc
    obtain⟨u,r,l⟩:=hl j y v q h2 (by rcases kk with z | z;exact .inr (.inl z);exact .inr (.inr z))
    refine⟨u,r,.inr ⟨af5 ff,?_⟩⟩
    obtain⟨c,hc⟩:=hcl.has y ff
    rcases l with ⟨z,_⟩ | ⟨_,c',e',cell⟩
    ·rcases kk with k | k<;>(rw[k] at z;cases z)
    ·rw[hcl.sub y c hc] at e'
     cases e'
     exact⟨c,hc,cell.keeps hkeep⟩
 ·obtain⟨v,q⟩:=I.cell y c (hcl.sub y c e)
  exact⟨v,q.keeps hkeep⟩
 ·show H C=none
  rw[hC]
  exact I.hok.fresh (aS _)
 ·have hp:p∈X.pn++pins:=by
   have hp:p∈(X.pn++pins)++[]:=hp
   rwa [cI] at hp
  obtain⟨e,n,ne,nf,d⟩:=I.pin p hp
  refine⟨hkeep _ _ e,n,hne _ _ e,fun z=>?_,d⟩
  rcases aY.mp (I.stkSub p.1 z) with z | z
  ·exact ne z
  ·exact nf z
 ·show (aa3 js σ).length+1=N'.length+1
  have q:=congrArg List.length hN
  rw[aU,aU] at q
  unfold aa3
  rw[aU,q]
end
theorem akN{prog:Program}{w:World}{A:Around}{R:Result->Shared->Prop}{s:Shared}{elt tg iter:Expr}{ifs:List Expr}{scope:Scope}{pos:Pos}{it acc:Value}{env:Env}{EN:Value->Shared->Prop}
  (hEN:EN=notedBy (model prog w) A env fun e s'=>R (.error e) s') (B:Nat->Shared->Prop)
  (turn:∀n s,B n s->wpAny (model prog w) A (pyNext it) (fun r s₁=>match r with
   |none=>R (.ok .next) s₁
   |some v=>wpAny (model prog w) A (letOwnedTupleGo tg it v) (fun _ s₂=>wpAny (model prog w) A (assign tg env v) (fun _ s₃=>
     wpAny (model prog w) A (au1 ifs env) (fun ok s₄=>
      if ok=true then wpAny (model prog w) A (eval elt env) (fun z s₅=>wpAny (model prog w) A (call (.builtin "list.append") [acc,z]) (fun _ s₆=>∃m,m<n/\B m s₆) EN s₅) EN s₄
      else ∃m,m<n/\B m s₄) EN s₃) EN s₂) EN s₁) EN s) (n:Nat) (h:B n s):
  codeAny (model prog w) A (.compLoop (.ListComp elt [⟨tg,iter,ifs,0⟩] scope pos) 0 it acc env) R s:=by
 subst hEN
 refine codeAny_loop rfl B (fun n s hI=>?_) n h
 refine wpAny_noted (m:=compTurn (.ListComp elt [⟨tg,iter,ifs,0⟩] scope pos) 0 it acc env) ?_
 rw[compTurn_list]
 refine dW (wpAny_standAt (dW (dX (turn n s hI) (fun r s₁ h₁=>?_) fun _ _ z=>z)))
 cases r with
 |none=>exact eJ h₁
 |some v=>
  refine dW (dX h₁ (fun _ s₂ h₂=>?_) fun _ _ z=>z)
  refine dW (dX h₂ (fun _ s₃ h₃=>?_) fun _ _ z=>z)
  refine dW (dX h₃ (fun ok s₄ h₄=>?_) fun _ _ z=>z)
  cases ok with
  |false=>exact eJ ⟨rfl,h₄⟩
  |true=>
   refine dW (dW (dX h₄ (fun z s₅ h₅=>?_) fun _ _ q=>q))
   exact dW (dX h₅ (fun _ s₆ h₆=>eJ (eJ ⟨rfl,h₆⟩)) fun _ _ q=>q)
section
variable{X:Cx}{elt iter:Expr}{x:Str}{px pos:Pos}{ifs:List Expr}{scope:Scope}{cl:List (Str×Addr)}{N':List Str}{js:List Nat}{tt:TT}{te:TE}
theorem aAF{pins:List (Addr×Obj)}{σ σ':St}{H H':Hp}{s s':Shared}{fp:List Addr}{C:Addr}(I:Inv X pins σ H s)(hfp:∀b∈fp,adF X pins H b)(J:Inv (aaN X (x::N') scope cl C fp pins s H) [] σ' H' s'):Inv X pins σ H' s':=
 I.call' (ch:=fp) J.os J.base J.hok J.bare fun b hb=>⟨(hfp b hb).2.2.2.1,(hfp b hb).2.1,(hfp b hb).2.2.2.2.1,(hfp b hb).2.2.2.2.2⟩
theorem akE{pins:List (Addr×Obj)}{σ:St}{H:Hp}{s:Shared}{Q:VK}{RR:Value->Addr->Result->Shared->Prop}{J:It}{fp:List Addr}{it:Addr}{tn:Nat->Heap->Prop}
  (hcl:Clos X scope cl) (hx:scope.names.lookup x=some .local) (hnd:(x::N').Nodup) (hN:js.map (fun j=>X.N[j]?)=N'.map some)
  (hk:N'.all (fun y=>(X.env.kindOf y==some .cell)||(X.env.kindOf y==some .free))=true) (hf:N'.all (fun y=>scope.names.lookup y==some .free)=true) (hc:X.calm=true)
  (ht:∀(C:Addr) (ex:List Addr) (pins:List (Addr×Obj)) (s:Shared) (H:Hp),PF (aaN X (x::N') scope cl C ex pins s H) ifs tt)
  (he:∀(C:Addr) (ex:List Addr) (pins:List (Addr×Obj)) (s:Shared) (H:Hp),PE (aaN X (x::N') scope cl C ex pins s H) elt te)
  (I:Inv X pins σ H s) (T:Turn X.prog X.w X.K (.Name x px) J fp it tn) (st:tn 0 s.heap) (hfp:∀b∈fp,adF X pins H b)
  (q:∀D,H D=none->∃W:Nat->Nat->Hp->Prop,(∃m,W 0 m (upd H D (.lst [])))/\∀i m H2,W i m H2->
   (J.stop i H2/\Q (.ref D) H2)∨(J.go i H2/\∀v H3,J.yld i H2 v H3->tt (some v::aa3 js σ) H3 fun b H4=>if b=true then
    te (some v::aa3 js σ) H4 fun y H5=>∃ys,H5 D=some (.lst ys)/\ys.length<sizeLine/\∃m',m'<m/\W (i+1) m' (upd H5 D (.lst (ys++[y])))
    else ∃m',m'<m/\W (i+1) m' H4))
  (hRR:∀(D C:Addr) (s':Shared) (H':Hp) (m:Str->Option Value),Inv X pins σ H' s'->H' C=none->C≠X.env.locals->X.s₀.heap.objs.size<=C->(∀y c,X.env.cells.lookup y=some c->c≠C)->(∀p∈X.pn++pins,p.1≠C)->s'.heap.Ns C m->Q (.ref D) H'->RR (.ref D) C (.ok .next) s'):
  wpAny (model X.prog X.w) X.A (newList []) (fun acc s₃=>wpAny (model X.prog X.w) X.A (newFunctionEnv scope X.env.globals cl [] X.env.qual none .none (some X.env)) (fun cenv s₄=>
   codeAny (model X.prog X.w) X.A (.compStart (.ListComp elt [⟨.Name x px,iter,ifs,0⟩] scope pos) 0 (.ref it) acc {cenv with scope:=relabel scope X.env}) (RR acc cenv.locals) s₄) X.xe s₃) X.xe s:=by
 refine dU ?_
 have hD:H s.heap.objs.size=none:=I.hok.fresh (aS _)
 have I3:Inv X pins σ (upd H s.heap.objs.size (.lst [])) {s with heap:=s.heap.push {cls:=.type "list",dict:=none,data:=.seq ([]:List Value).toArray} }:=I.lnew (its:=[]) (t':=s.toks) .nil (bK _)
 have hfp3:∀b∈fp,adF X pins (upd H s.heap.objs.size (.lst [])) b/\b<(s.heap.push {cls:=.type "list",dict:=none,data:=.seq ([]:List Value).toArray}).objs.size:=fun b hb=>by
  obtain⟨o,ho,_⟩:=T.obj 0 _ st b hb
  have hlt:=aV ho
  obtain⟨f0,f1⟩:=hfp b hb
  exact⟨⟨by rw[aaF (aX hlt)];exact f0,f1⟩,by rw[cH];exact cM hlt⟩
 have st3:tn 0 (s.heap.push {cls:=.type "list",dict:=none,data:=.seq ([]:List Value).toArray}):=T.keep _ _ _ st fun b _ o e=>aW _ e
 obtain⟨W,⟨m0,w0⟩,turn⟩:=q s.heap.objs.size hD
 generalize hs3:({s with heap:=s.heap.push {cls:=.type "list",dict:=none,data:=.seq ([]:List Value).toArray} }:Shared)=s3 at I3 ⊢
 have hh3:s.heap.push {cls:=.type "list",dict:=none,data:=.seq ([]:List Value).toArray}=s3.heap:=by rw[←hs3]
 rw[hh3] at hfp3 st3
 generalize s.heap.objs.size=D at I3 hfp3 w0 turn hD ⊢
 generalize upd H D (.lst [])=H3 at I3 hfp3 w0
 refine wpAny_newFunctionEnv hcl.nocell (by intro y hy;simp at hy) (fun h₁ hns₁ hsb₁=>?_) hcl.kind
 have hkeep:∀b o,s3.heap.get? b=some o->h₁.get? b=some o:=fun b o e=>hsb₁.extBut b o (aX (aV e)) (aW _ e)
 have J4:Inv (aaN X (x::N') scope cl s3.heap.objs.size fp pins s3 H3) [] (none::aa3 js σ) H3 {s3 with heap:=h₁,toks:=s3.toks+([]:List (Str×Value)).length}:=
  at6 hcl hN hk hf I3 hfp3 rfl rfl rfl hkeep hns₁
 have st4:tn 0 h₁:=T.keep _ _ _ st3 fun b _ o e=>hkeep b o e
 have cell':∀{s':Shared} {σ':St} {H':Hp},Inv (aaN X (x::N') scope cl s3.heap.objs.size fp pins s3 H3) [] σ' H' s'->Q (.ref D) H'->RR (.ref D) s3.heap.objs.size (.ok .next) s':=fun {s' σ' H'} J hq=>by
  obtain⟨m,hn,_⟩:=J.loc
  refine hRR D _ s' H' m (aAF I3 (fun b hb=>(hfp3 b hb).1) J) J.free (Nat.ne_of_gt I3.lt) I3.sz (fun y c e z=>?_) (fun p hp z=>?_) hn hq
  ·obtain⟨v,k⟩:=I3.cell y c e
   exact absurd k.lt (by rw[z];exact b8 _)
  ·exact absurd (aV (I3.pin p hp).1) (by rw[z];exact b8 _)
 have fpX:∀{H':Hp},(∀b∈fp,H' b=none)->∀b∈fp,adF (aaN X (x::N') scope cl s3.heap.objs.size fp pins s3 H3) [] H' b:=fun {H'} hn b hb=>by
  obtain⟨⟨f0,f1,f2,f3,f4,f5⟩,flt⟩:=hfp3 b hb
  refine⟨hn b hb,aX flt,fun z=>?_,.inl hb,fun y c e=>f4 y c (hcl.sub y c e),fun p hp=>?_⟩
  ·rcases aY.mp (I3.stkSub b z) with z | z
   ·exact f1 z
   ·exact f2 z
  ·have hp:p∈(X.pn++pins)++[]:=hp
   rw[cI] at hp
   exact f5 p hp
 have loop:∀s₄:Shared,s₄={s3 with heap:=h₁,toks:=s3.toks+([]:List (Str×Value)).length}->
   codeAny (model X.prog X.w) X.A (.compLoop (.ListComp elt [⟨.Name x px,iter,ifs,0⟩] scope pos) 0 (.ref it) (.ref D) (compEnvC scope cl s3.heap.objs.size X.env)) (RR (.ref D) s3.heap.objs.size) s₄:=by
  rintro s₄ rfl
  refine akN rfl (fun n s'=>∃i σ0 H',Inv (aaN X (x::N') scope cl s3.heap.objs.size fp pins s3 H3) [] (σ0::aa3 js σ) H' s'/\tn i s'.heap/\(∀b∈fp,H' b=none)/\W i n H') ?_ m0 ⟨0,none,H3,J4,st4,fun b hb=>(hfp3 b hb).1.1,w0⟩
  rintro n s5 ⟨i,σ0,H5,J5,st5,fr5,w5⟩
  rcases turn i n H5 w5 with ⟨stop,qn⟩ | ⟨go,step⟩
  ·refine dX (T.done (aaN X (x::N') scope cl s3.heap.objs.size fp pins s3 H3) rfl rfl rfl hc i [] s5 _ H5 (fun _ _=>False) J5 (fpX fr5) st5 stop) (fun r s6 ⟨hr,J6⟩=>?_) fun _ _ z=>z.elim
   subst hr
   exact cell' J6 qn
  ·refine dX (T.item (aaN X (x::N') scope cl s3.heap.objs.size fp pins s3 H3) rfl rfl rfl hc i [] s5 _ H5 (fun _ _=>False) J5 (fpX fr5) st5 go) (fun r s6 ⟨u,hr,h6⟩=>?_) fun _ _ z=>z.elim
   subst hr
   refine dX h6 (fun _ s6' h6'=>?_) fun _ _ z=>z.elim
   obtain⟨v,H6,J6,r6,y6,st6,fr6⟩:=h6'
   clear h6
   have J6':=J6.pinned (fpX fr6) (T.obj _ _ st6)
   show wpAny _ _ (assign (.Name x px) _ u) _ _ _
   refine wpAny_assign_Name (ak1 (i:=0) J6' hnd rfl (.inl (lookup_relabel_local hx)) r6 (fun s7 J7=>?_) (.inr (lookup_relabel_local hx)))
   have J7:Inv (aaN X (x::N') scope cl s3.heap.objs.size fp pins s3 H3) ([]++afW fp s6'.heap) (some v::aa3 js σ) H6 s7:=J7
   have again:∀{σ8:St} {H8:Hp} {s8:Shared},Inv (aaN X (x::N') scope cl s3.heap.objs.size fp pins s3 H3) ([]++afW fp s6'.heap) σ8 H8 s8->tn (i+1) s8.heap/\∀b∈fp,H8 b=none:=fun {σ8 H8 s8} J8=>by
    refine⟨T.keep _ _ _ st6 fun b hb o e=>(J8.pin (b,o) (bY _ (bY _ (ab2 hb e)))).1,fun b hb=>?_⟩
    obtain⟨o,e,d⟩:=T.obj _ _ st6 b hb
    exact (J8.pin (b,o) (bY _ (bY _ (ab2 hb e)))).2.1
   refine dX (ht _ _ _ _ _ _ s7 _ H6 _ J7 (step v H6 y6)) (fun ok s8 ⟨H8,J8,q8⟩=>?_) fun _ _ z=>z.elim
   cases ok with
   |false=>
    obtain⟨m',hm,w8⟩:=(show ∃m',m'<n/\W (i+1) m' H8 from q8)
    obtain⟨a1,a2⟩:=again J8
    exact⟨m',hm,i+1,some v,H8,J8.unpinned,a1,a2,w8⟩
   |true=>
    refine dX (he _ _ _ _ _ _ s8 _ H8 _ J8 q8) (fun y s9 ⟨z,H9,J9,r9,ys,hys,hlen,m',hm,w9⟩=>?_) fun _ _ z=>z.elim
    refine dX (ahE (X:=aaN X (x::N') scope cl s3.heap.objs.size fp pins s3 H3) _ s9 _ H9 (.ref D) [z] (.ref D) [y] (fun _ H10=>H10=upd H9 D (.lst (ys++[z]))) J9 rfl (.cons r9 .nil) ⟨D,ys,z,rfl,rfl,hys,hlen,rfl⟩) (fun _ s10 ⟨_,H10,J10,_,e10⟩=>?_) fun _ _ z=>z.elim
    subst e10
    obtain⟨a1,a2⟩:=again J10
    exact⟨m',hm,i+1,some v,_,J10.unpinned,a1,a2,w9⟩
 exact codeAny_compStart_list (loop _ rfl) (T.self _ 0 _ _ _ st4 (loop _ rfl))
theorem aCC{wi:TI}(hcl:Clos X scope cl)(hx:scope.names.lookup x=some .local)(hnd:(x::N').Nodup)(hN:js.map (fun j=>X.N[j]?)=N'.map some)
  (hk:N'.all (fun y=>(X.env.kindOf y==some .cell)||(X.env.kindOf y==some .free))=true) (hf:N'.all (fun y=>scope.names.lookup y==some .free)=true) (hc:X.calm=true)
  (hi:PI X (.Name x px) iter wi)
  (ht:∀(C:Addr) (ex:List Addr) (pins:List (Addr×Obj)) (s:Shared) (H:Hp),PF (aaN X (x::N') scope cl C ex pins s H) ifs tt)
  (he:∀(C:Addr) (ex:List Addr) (pins:List (Addr×Obj)) (s:Shared) (H:Hp),PE (aaN X (x::N') scope cl C ex pins s H) elt te)
  (hs:∀x,foldedSetIterable iter X.env x=pure x:=by intro _;rfl):
  PE X (.ListComp elt [⟨.Name x px,iter,ifs,0⟩] scope pos) (azB wi js tt te):=by
 intro pins s σ H Q I h
 rw[eval_ListComp]
 refine wpAny_comprehension_free (use:=none) rfl hs hcl.is hcl.kind hcl.names (thn (hi pins s σ H _ I h) fun xv s₁ h₁=>thn h₁ fun itv s₂ h₂=>?_)
 obtain⟨it,fp,tn,J,H2,rfl,I2,T,st,hfp,q⟩:=h₂
 refine akE (RR:=fun acc C=>compPost (model X.prog X.w) X.A X.xe none (EP X pins σ Q) acc C) hcl hx hnd hN hk hf hc ht he I2 T st hfp q ?_
 intro D C s' H' m I' hC0 hCL hCs hCc hCp hn hq
 refine⟨m,hn,fun h' sb=>⟨.ref D,H',?_,rfl,hq⟩⟩
 exact I'.turned (t':=s'.toks) (fun b o hb e=>(sb.2 b hb).trans e) hC0 hCL (.inr hCs) hCc hCp
end
theorem af0(env:Env):∀(names:List (Str×NameKind)) (acc:List (Str×Addr)),names.all (fun y=>y.2 != .free||(env.cells.lookup y.1).isSome)=true->
  ∃cl:List (Str×Addr),(forIn (m:=Sem) names acc fun x r=>(do
   let (name,kind):=x
   if kind== .free then do let c ←cellOf env name;pure (ForInStep.yield ((name,c)::r)) else pure (ForInStep.yield r)))=(pure cl:Sem _)/\
   (∀y c,cl.lookup y=some c->env.cells.lookup y=some c∨acc.lookup y=some c)/\(∀y,(∃c,acc.lookup y=some c)->∃c,cl.lookup y=some c)/\(∀y,(y,NameKind.free)∈names->∃c,cl.lookup y=some c)
 |[],acc,_=>⟨acc,rfl,fun _ _ h=>.inr h,fun _ h=>h,fun _ h=>nomatch h⟩
 |(n,k)::r,acc,h=>by
  rw[List.all_cons,bF] at h
  by_cases hk:k=.free
  ·subst hk
   have h1:(env.cells.lookup n).isSome=true:=by simpa using h.1
   obtain⟨c,hc⟩:=dB.mp h1
   obtain⟨cl,e,p1,p2,p3⟩:=af0 env r ((n,c)::acc) h.2
   refine⟨cl,?_,fun y c' hy=>?_,fun y hy=>?_,fun y hy=>?_⟩
   ·rw[←e]
    have q:cellOf env n=(pure c:Sem Addr):=by unfold cellOf;rw[hc]
    rw[List.forIn_cons]
    dsimp only
    rw[if_pos (show (NameKind.free==NameKind.free)=true from rfl),q]
    rfl
   ·rcases p1 y c' hy with z | z
    ·exact .inl z
    ·rw[dE] at z
     cases hyn:y==n with
     |true=>
      rw[hyn] at z
      have e1:y=n:=by simpa using hyn
      have e2:c=c':=by simpa using z
      rw[e1,←e2]
      exact .inl hc
     |false=>
      rw[hyn] at z
      exact .inr z
   ·refine p2 y ?_
    rw[dE]
    cases hyn:y==n with
    |true=>exact⟨c,rfl⟩
    |false=>exact hy
   ·rcases aY.mp hy with z | z
    ·refine p2 y ⟨c,?_⟩
     have e1:y=n:=(Prod.mk.inj z).1
     rw[e1,dE]
     simp
    ·exact p3 y z
  ·obtain⟨cl,e,p1,p2,p3⟩:=af0 env r acc h.2
   have hk':(k==NameKind.free)=false:=by simpa using hk
   refine⟨cl,?_,p1,p2,fun y hy=>?_⟩
   ·rw[←e]
    rw[List.forIn_cons]
    dsimp only
    rw[if_neg (by rw[hk'];exact bB)]
    rfl
   ·rcases aY.mp hy with z | z
    ·exact absurd (Prod.mk.inj z).2.symm hk
    ·exact p3 y z
theorem apJ{X:Cx}{scope:Scope}(h:scope.names.all (fun y=>y.2 != .free||(X.env.cells.lookup y.1).isSome)=true)(h2:scope.names.all (fun y=>y.2 != .cell)=true)(h3:scope.kind=.function)
  (h4:scope.names.all (fun y=>y.2 != .local||scope.names.lookup y.1==some .local)=true):∃cl,Clos X scope cl:=by
 obtain⟨cl,e,p1,p2,p3⟩:=af0 X.env scope.names [] h
 refine⟨cl,?_,fun y c hy=>?_,fun y hy=>p3 y (PySem.mem_of_lookup hy),fun y hy=>by simpa using bZ.mp h2 y hy,h3,fun y hy hl=>?_⟩
 ·unfold closureFor
  exact Eq.trans (congrArg (fun t:Sem (List (Str×Addr))=>t >>=fun r=>(pure r:Sem (List (Str×Addr)))) e) rfl
 ·rcases p1 y c hy with z | z
  ·exact z
  ·simp at z
 ·have q:=bZ.mp h4 y hy
  simpa [hl] using q
section
variable{js:List Nat}{σ:St}{tt:TT}{te:TE}{Q:VK}{H1:Hp}
theorem adG{lo:Int}{n:Nat}(R:Nat->List V->Prop)(hn:n<=sizeLine)(h0:R 0 [])
  (hs:∀(i:Nat) (l:List V) (D:Addr) (H2:Hp) (E:V->Hp->Prop) (F:Hp->Prop),i<n->R i l->H1 D=none->Same H1 H2->H2 D=some (.lst l)->(∀y H5,Same H2 H5->R (i+1) (l++[y])->E y H5)->(∀H4,Same H2 H4->R (i+1) l->F H4)->
   tt (some (.int (lo+i))::aa3 js σ) H2 fun b H4=>if b=true then te (some (.int (lo+i))::aa3 js σ) H4 E else F H4)
  (hd:∀(D:Addr) (H2:Hp) (l:List V),R n l->H1 D=none->Same H1 H2->H2 D=some (.lst l)->Q (.ref D) H2):auN (Itr lo n) js σ tt te Q H1:=by
 intro D hD
 refine⟨fun i m H2=>m=n-i/\i<=n/\Same H1 H2/\∃l,H2 D=some (.lst l)/\l.length<=i/\R i l,⟨n,by simp,bK _,aaB hD _,[],aaA,aS _,h0⟩,?_⟩
 rintro i m H2 ⟨rfl,hi,s2,l,h2,hll,hR⟩
 by_cases hlt:i<n
 ·refine .inr ⟨hlt,fun v H3 y=>?_⟩
  obtain⟨e,ev⟩:=y
  subst e ev
  refine hs i l D _ _ _ hlt hR hD s2 h2 (fun z H5 s5 r5=>?_) (fun H4 s4 r4=>?_)
  ·refine⟨l,s5 _ _ h2,dI hll (a9 hlt hn),n-(i+1),by omega,rfl,hlt,fun b o hb=>?_,l++[z],aaA,by rw[bC,cL];omega,r5⟩
   rw[aaF (aaG hb hD)]
   exact s5 _ _ (s2 _ _ hb)
  ·exact⟨n-(i+1),by omega,rfl,hlt,s2.trans s4,l,s4 _ _ h2,by omega,r4⟩
 ·have e:i=n:=by omega
  subst e
  exact .inl ⟨aS _,hd D H2 l hR hD s2 h2⟩
end
structure E(X:Cx)(e:Expr)(t:TE):Prop where
 h:PE X e t
structure T(X:Cx)(e:Expr)(t:TT):Prop where
 h:PT X e t
structure TW(X:Cx)(e:Expr)(t:TT):Prop where
 h:PW X e t
structure As(X:Cx)(es:List Expr)(t:TA):Prop where
 h:PA X es t
structure S(X:Cx)(st:Stmt)(t:TS):Prop where
 h:PS X st t
structure Ss(X:Cx)(sts:List Stmt)(t:TS):Prop where
 h:PSs X sts t
structure Il(X:Cx)(tg iter:Expr)(wi:TI):Prop where
 h:PI X tg iter wi
structure Gt(X:Cx)(tg:Expr)(t:TG):Prop where
 h:PG X tg t
structure Gts(X:Cx)(ts:List Expr)(t:TGs):Prop where
 h:PGs X ts t
structure Fs(X:Cx)(ifs:List Expr)(t:TT):Prop where
 h:PF X ifs t
structure Op2(X:Cx)(f:Value->Value->Sem Value)(r:R2):Prop where
 h:OpR X f r
structure Op1(X:Cx)(f:Value->Sem Value)(r:V->Hp->VK->Prop):Prop where
 h:UnR X f r
structure Cl1(X:Cx)(f:Value)(r:List V->Hp->VK->Prop):Prop where
 h:adP X f r
structure Ixs(X:Cx)(r:R2):Prop where
 h:IxR X r
section
variable{X:Cx}{a b c e:Expr}{pos p:Pos}{ta tb tc te:TE}{t u:TT}{rest es:List Expr}{tA:TA}{op op':CmpOp}{r r':R2}{x:Str}
theorem v_(i:Nat)(hN:X.N[i]? =some x:=by rfl)(hv:Vis X.env.scope x:=by first | exact Or.inl rfl | exact Or.inr (Or.inl rfl) | exact Or.inr (Or.inr rfl))(hd:(x==("__debug__":Str))=false:=by decide)(hcd:(x==("__classdict__":Str))=false:=by decide):
  E X (.Name x pos) (aCH i):=⟨aEZ hN hv hd hcd⟩
theorem eI{i j}:E X (.Constant (.int i) j pos) (tC (.int i)):=⟨ax8⟩
theorem eB{k j}:E X (.Constant (.bool k) j pos) (tC (.bl k)):=⟨aNH⟩
theorem eN{j}:E X (.Constant .none j pos) (tC .non):=⟨aFM⟩
theorem eS{z j}:E X (.Constant (.str z) j pos) (tC (.str z)):=⟨az3⟩
theorem eGl{v:V}{w':Value}(hm:X.mg x=some w')(q:RelV v w')(hg:Gl X x:=by rfl)(hd:(x==("__debug__":Str))=false:=by decide):E X (.Name x pos) (tC v):=⟨aCM hg hm q hd⟩
theorem eTy{n:String}(hm:X.mg x=none)(hv:bootBuiltins x=some (.type n))(hg:Gl X x:=by rfl)(hn:x≠"__name__":=by decide)(hd:(x==("__debug__":Str))=false:=by decide):E X (.Name x pos) (tC (.ty n)):=⟨aBX hg hm hv rfl hn hd⟩
theorem eOp{o:Operator}(ho:Op2 X (binaryOp o) r)(ha:E X a ta)(hb:E X b tb):E X (.BinOp a o b pos) (tOp r ta tb):=⟨aJY ho.h ha.h hb.h⟩
theorem eUn{o:UnaryOp}{r1:V->Hp->VK->Prop}(ho:Op1 X (unaryOp o) r1)(ha:E X a ta):E X (.UnaryOp o a pos) (tUn r1 ta):=⟨aM4 ho.h ha.h⟩
theorem acT(ho:Op2 X (compareOp op) r)(ha:E X a ta)(hb:E X b tb)(hm:behindInMarks op b=false:=by first | exact azT _ | rfl):E X (.Compare a [op] [b] pos) (tOp r ta tb):=⟨aBU ho.h ha.h hb.h hm⟩
theorem eCh(ho:Op2 X (compareOp op) r)(ho':Op2 X (compareOp op') r')(ha:E X a ta)(hb:E X b tb)(hc:E X c tc)(hm:lastMarks [op,op'] [b,c]=false:=by with_unfolding_all rfl):E X (.Compare a [op,op'] [b,c] pos) (apA r r' ta tb tc):=⟨aAE ho.h ho'.h ha.h hb.h hc.h hm⟩
theorem tCh(ho:Op2 X (compareOp op) r)(ho':Op2 X (compareOp op') r')(ha:E X a ta)(hb:E X b tb)(hc:E X c tc)(hm:lastMarks [op,op'] [b,c]=false:=by with_unfolding_all rfl):T X (.Compare a [op,op'] [b,c] pos) (avF (apA r r' ta tb tc)):=⟨ay5 ho.h ho'.h ha.h hb.h hc.h hm⟩
theorem aiX{o}(ha:E X a ta):E X (.BoolOp o [a] pos) ta:=⟨aEL ha.h⟩
theorem aqR(ha:E X a ta)(hb:E X (.BoolOp .And (b::rest) pos) tb):E X (.BoolOp .And (a::b::rest) pos) (aDJ ta tb):=⟨aGF ha.h hb.h⟩
theorem eOr(ha:E X a ta)(hb:E X (.BoolOp .Or (b::rest) pos) tb):E X (.BoolOp .Or (a::b::rest) pos) (aJN ta tb):=⟨aPD ha.h hb.h⟩
theorem eNot(ha:E X a ta):E X (.UnaryOp .Not a pos) (aDR ta):=⟨aEU ha.h⟩
theorem eIf(hc:T X c t)(ha:E X a ta)(hb:E X b tb):E X (.IfExp c a b pos) (tIf t ta tb):=⟨ayT hc.h ha.h hb.h⟩
theorem tCm(ho:Op2 X (compareOp op) r)(ha:E X a ta)(hb:E X b tb)(hm:behindInMarks op b=false:=by first | exact azT _ | rfl):T X (.Compare a [op] [b] pos) (avF (tOp r ta tb)):=⟨aCW ho.h ha.h hb.h hm⟩
theorem tNo(ha:T X a t):T X (.UnaryOp .Not a pos) (aIT t):=⟨aFQ ha.h⟩
theorem tVa(ha:E X e te)(he:∀whole,isTrue e X.env whole=(do let v ←whole;standAt e.pos;holding [v] (truthy v)):=by intro _;rfl):T X e (L2.tB te):=⟨aE4 ha.h he⟩
theorem ah8(ha:T X a t):TW X (.BoolOp .And [a] pos) t:=⟨aBM ha.h⟩
theorem ak2(ha:T X a t):TW X (.BoolOp .Or [a] pos) t:=⟨aE5 ha.h⟩
theorem anN(ha:T X a t)(hb:TW X (.BoolOp .And (b::rest) pos) u):TW X (.BoolOp .And (a::b::rest) pos) (aG9 t u):=⟨aFZ ha.h hb.h⟩
theorem wOr(ha:T X a t)(hb:TW X (.BoolOp .Or (b::rest) pos) u):TW X (.BoolOp .Or (a::b::rest) pos) (tOr t u):=⟨aMM ha.h hb.h⟩
theorem tW(ha:TW X e t):T X e t:=⟨ha.h.pt⟩
theorem aN:As X [] akI:=⟨aeG⟩
theorem aC(ha:E X e te)(hr:As X es tA)(hs:starEach (e::es) X.env=(false,eval e X.env)::starEach es X.env:=by rfl):As X (e::es) (adX te tA):=⟨acY ha.h hr.h hs⟩
theorem aAA(is:List Int)(h:es.map aqG=is.map some:=by rfl):As X es (aC8 is):=⟨auY is h⟩
theorem ab0(ha:As X es tA):E X (.List es pos) (aOO tA):=⟨aFI ha.h⟩
theorem abN{k}(ha:As X es tA):E X (.Tuple es k pos) (aKA tA):=⟨aEN ha.h⟩
theorem eIx(hr:Ixs X r)(ha:E X a ta)(hb:E X b tb)(hs:av2 b:=by intro _ _;rfl):E X (.Subscript a b pos) (tOp r ta tb):=⟨aKU hr.h ha.h hb.h hs⟩
theorem eD{k k':Nat}{ps:List Str}{sp:Sp}(D:Df X.prog X.w X.K X.mg X.base x k ps sp)(hr:Room k' X.A)(ha:As X (e::es) tA)(hk:k<=k':=by decide)(hg:Gl X x:=by rfl)
  (hdb:(x==("__debug__":Str))=false:=by decide) (he:starEach (e::es) X.env=(false,eval e X.env)::starEach es X.env:=by rfl) (hpl:(backTo pos (starEach es X.env)).any (·.1)=false:=by rfl):
  E X (.Call (.Name x p) (e::es) [] pos) (auJ sp [] E0 tA):=⟨ax3 D hr ha.h hk hg hdb he hpl⟩
theorem eCB{id:String}{rc:List V->Hp->VK->Prop}(hc:Cl1 X (.builtin id) rc)(hm:X.mg x=none)(hv:bootBuiltins x=some (.builtin id))(ha:As X (e::es) tA)(hg:Gl X x:=by rfl)(hn:x≠"__name__":=by decide)(hdb:(x==("__debug__":Str))=false:=by decide)
  (he:starEach (e::es) X.env=(false,eval e X.env)::starEach es X.env:=by rfl) (hpl:(backTo pos (starEach es X.env)).any (·.1)=false:=by rfl):E X (.Call (.Name x p) (e::es) [] pos) (tCB rc tA):=⟨azW hc.h hg hm hv ha.h hn hdb he hpl⟩
theorem eCT{n:String}{rc:List V->Hp->VK->Prop}(hc:Cl1 X (.type n) rc)(hm:X.mg x=none)(hv:bootBuiltins x=some (.type n))(ha:As X (e::es) tA)(hg:Gl X x:=by rfl)(hn:x≠"__name__":=by decide)(hdb:(x==("__debug__":Str))=false:=by decide)
  (he:starEach (e::es) X.env=(false,eval e X.env)::starEach es X.env:=by rfl) (hpl:(backTo pos (starEach es X.env)).any (·.1)=false:=by rfl):E X (.Call (.Name x p) (e::es) [] pos) (tCB rc tA):=⟨awF hc.h hg hm hv ha.h hn hdb he hpl⟩
end
section
variable{X:Cx}
theorem aa2:Op2 X (binaryOp .Add) (rI0 fun i j=>.int (i+j)):=⟨aF8⟩
theorem abA:Op2 X (binaryOp .Sub) (rI0 fun i j=>.int (i-j)):=⟨aD7⟩
theorem af3:Op2 X (binaryOp .Mult) (rI CMul fun i j=>.int (i*j)):=⟨aFU⟩
theorem ajI:Op2 X (binaryOp .FloorDiv) (rI aQS fun i j=>.int (i / j)):=⟨aCQ⟩
theorem ab3:Op2 X (binaryOp .Mod) (rI (fun _ j=>0<j) fun i j=>.int (i%j)):=⟨aET⟩
theorem ayF:Op2 X (binaryOp .Pow) (rI aBQ fun i j=>.int (i^j.toNat)):=⟨aGM⟩
theorem amA:Op2 X (binaryOp .LShift) (rI aBQ fun i j=>.int (i*2^j.toNat)):=⟨aEI⟩
theorem azC:Op2 X (binaryOp .RShift) (rI (fun _ j=>0<=j) fun i j=>.int (i / 2^j.toNat)):=⟨aF3⟩
theorem awP:Op2 X (binaryOp .BitAnd) (rI0 fun i j=>.int (Builtin.bitAnd i j)):=⟨aFW⟩
theorem oOr:Op2 X (binaryOp .BitOr) (rI0 fun i j=>.int (Builtin.bitOr i j)):=⟨aK9⟩
theorem aLE:Op2 X (binaryOp .Add) aI0:=⟨aE0⟩
theorem oEq:Op2 X (compareOp .Eq) rEq:=⟨aQA⟩
theorem oNe:Op2 X (compareOp .NotEq) rNe:=⟨aJX⟩
theorem oLt:Op2 X (compareOp .Lt) (rI0 fun i j=>.bl (decide (i<j))):=⟨aLO⟩
theorem oLe:Op2 X (compareOp .LtE) (rI0 fun i j=>.bl (decide (i<=j))):=⟨aLS⟩
theorem oGt:Op2 X (compareOp .Gt) (rI0 fun i j=>.bl (decide (j<i))):=⟨aME⟩
theorem oGe:Op2 X (compareOp .GtE) (rI0 fun i j=>.bl (decide (j<=i))):=⟨aHF⟩
theorem xL:Ixs X (aK3 X.K):=⟨aA2⟩
theorem xT:Ixs X (aPW X.K):=⟨aES⟩
theorem amB:Cl1 X (.builtin "len") (fun xs H Q=>∃p ys,xs=[.ref p]/\(SqL X.K H p ys∨SqT X.K H p ys)/\Q (.int ys.length) H):=⟨aoR⟩
theorem cAbs:Cl1 X (.builtin "abs") (fun xs H Q=>∃i,xs=[.int i]/\Q (.int (if i<0 then -i else i)) H):=⟨ayK⟩
theorem aEC(hc:X.calm=true:=by rfl):Cl1 X (.builtin "max") (fun xs H Q=>∃i j,xs=[.int i,.int j]/\Q (.int (if j>i then j else i)) H):=⟨axC hc⟩
theorem aFB(hc:X.calm=true:=by rfl):Cl1 X (.builtin "min") (fun xs H Q=>∃i j,xs=[.int i,.int j]/\Q (.int (if j<i then j else i)) H):=⟨awO hc⟩
theorem cII:Cl1 X (.builtin "isinstance") (fun xs H Q=>∃i:Int,xs=[.int i,.ty "int"]/\Q (.bl true) H):=⟨atF⟩
theorem cIB:Cl1 X (.builtin "isinstance") (fun xs H Q=>∃i:Int,xs=[.int i,.ty "bool"]/\Q (.bl false) H):=⟨as7⟩
end
section
variable{X:Cx}{e c iter tg:Expr}{te:TE}{tt:TT}{tA:TA}{wi:TI}{g:TG}{t u tb:TS}{st:Stmt}{rest body ba bb:List Stmt}{pos pos' p:Pos}{x:Str}{a1 a2:Expr}
theorem ssN:Ss X [] aC7:=⟨aCL⟩
theorem ssC(h1:S X st t)(h2:Ss X rest u):Ss X (st::rest) (aA3 t u):=⟨ax4 h1.h h2.h⟩
theorem ss1(h1:S X st t):Ss X [st] t:=⟨aB2 h1.h⟩
theorem an9:S X st az5:=⟨ayH⟩
theorem aaH(he:E X e te):S X (.Return (some e) pos) (aH0 te):=⟨aD4 he.h⟩
theorem sIf(hc:T X c tt)(ha:Ss X ba t)(hb:Ss X bb u):S X (.If c ba bb pos) (aMT tt t u):=⟨aG7 hc.h ha.h hb.h⟩
theorem apC(he:E X e te)(hs:swapsWith e none pos.line X.env=pure false:=by rfl):S X (.Expr e pos) (aC3 te):=⟨aA0 he.h hs⟩
theorem aaJ(i:Nat)(he:E X e te)(hN:X.N.Nodup)(hi:X.N[i]? =some x:=by rfl)(hx:Loc X.env.scope x:=by first | exact Or.inl rfl | exact Or.inr rfl)(hs:swapsWith e (some (.Name x pos')) pos.line X.env=pure false:=by rfl)
  (hf:X.fn x=true∨X.env.scope.names.lookup x=some .local:=by first | exact .inl rfl | exact .inr rfl):S X (.Assign [.Name x pos'] e pos) (asW te (ac5 i)):=⟨aD3 hN hi hx he.h hs hf⟩
theorem gN(i:Nat)(hN:X.N.Nodup)(hi:X.N[i]? =some x:=by rfl)(hx:Loc X.env.scope x:=by first | exact Or.inl rfl | exact Or.inr rfl)(hf:X.fn x=true∨X.env.scope.names.lookup x=some .local:=by first | exact .inl rfl | exact .inr rfl):Gt X (.Name x pos) (ac5 i):=⟨aBT hN hi hx hf⟩
theorem acZ(hi:Il X tg iter wi)(hg:Gt X tg g)(hb:Ss X body tb)(hp:PassesOwn (model X.prog X.w) X.A X.env X.xe)(hc:X.calm=true:=by rfl)(hs:∀x,foldedSetIterable iter X.env x=pure x:=by intro _;rfl):S X (.For tg iter body [] pos) (aOP wi g tb):=⟨aFH hp hc hi.h hg.h hb.h hs⟩
theorem sWh(hc:T X c tt)(hb:Ss X body tb)(hp:PassesOwn (model X.prog X.w) X.A X.env X.xe):S X (.While c body [] pos) (atV tt tb):=⟨aAB hp hc.h hb.h⟩
theorem iL(hl:E X e te):Il X tg e (aDK X.K te):=⟨aBR hl.h⟩
theorem iT(hl:E X e te):Il X tg e (aIK X.K te):=⟨aEQ hl.h⟩
theorem iR1(hm:X.mg "range"=none)(ha:As X [a1] tA)(hg:Gl X "range":=by rfl)(hs:starEach [a1] X.env=[(false,eval a1 X.env)]:=by rfl):Il X tg (.Call (.Name "range" p) [a1] [] pos) (aDB tA):=⟨awB hg hm ha.h hs⟩
theorem iR2(hm:X.mg "range"=none)(ha:As X [a1,a2] tA)(hg:Gl X "range":=by rfl)(hs:starEach [a1,a2] X.env=[(false,eval a1 X.env),(false,eval a2 X.env)]:=by rfl)(hs2:starEach [a2] X.env=[(false,eval a2 X.env)]:=by rfl):
  Il X tg (.Call (.Name "range" p) [a1,a2] [] pos) (aC9 tA):=⟨awD hg hm ha.h hs hs2⟩
end
section
variable{P:Program}{w:World}{K:FG}{mg:Str->Option Value}{base:Heap}{x:Str}{st:Stmt}{ps N:List Str}{k:Nat}{sp:Sp}
theorem Fn.dfs(F:Fn K mg x st ps)(S':FnScope N ps (aaC st))(len:∀vs H Q E,sp vs H Q E->vs.length=ps.length)
  (hbody:∀(f:Addr) (cdv:Value) (A:Around) (outer:List Env) (s:Shared) (H:Hp) (vs:List V) (Q:VK) (E:XK),Room k (A.deeper (envOfC x (aaC st) s.heap.objs.size f cdv))->sp vs H Q E->
   ∃t,Ss (ai2 CX0 P w K mg base N x (aaC st) f cdv A outer s H E).nox (aaV st) t/\t {nx:=fun _ H'=>Q .non H',rt:=Q} (start N vs) H):Df P w K mg base x (k+1) ps sp:=
 F.df S' len fun f cdv A outer s H vs Q E hr h=>by
  obtain⟨t,h1,h2⟩:=hbody f cdv A outer s H vs Q E hr h
  exact⟨t,h1.h,h2⟩
theorem Fun.oks{f:Addr}{fd:FuncData}(F:Fun K x x st f fd)(S':FnScope N ps (aaC st))(len:∀vs H Q E,sp vs H Q E->vs.length=ps.length)
  (hbody:∀(cdv:Value) (A:Around) (outer:List Env) (s:Shared) (H:Hp) (vs:List V) (Q:VK) (E:XK),Room k (A.deeper (envOfC x (aaC st) s.heap.objs.size f cdv))->sp vs H Q E->
   ∃t,Ss (ai2 CX0 P w K mg base N x (aaC st) f cdv A outer s H E).nox (aaV st) t/\t {nx:=fun _ H'=>Q .non H',rt:=Q} (start N vs) H):FnOk P w K mg base CX0 (k+1) f fd ps sp:=
 F.ok S' len fun cdv A outer s H vs Q E hr h=>by
  obtain⟨t,h1,h2⟩:=hbody cdv A outer s H vs Q E hr h
  exact⟨t,h1.h,h2⟩
end
end L2
namespace L2
open PySem PySem.Spec PyProof.Rows PySem.SeqAt
theorem agD:∀{is:List Int} {us:List Value},Vals (is.map V.int) us->IntsAre us is
 |[],_,.nil=>.nil
 |_::_,_,.cons ⟨_,rfl⟩ r=>.cons _ _ (agD r)
section
variable{X:Cx}
theorem aw1(hc:X.calm=true):adP X (.builtin "sum") (fun xs H Q=>∃(p:Addr) (is:List Int),xs=[.ref p]/\SqL X.K H p (is.map V.int)/\Q (.int is.sum) H):=by
 intro pins s σ H xs us Q I r h
 obtain⟨p,is,rfl,hq,q⟩:=h
 obtain⟨u,rfl,r1⟩:=acE r
 cases r1
 obtain⟨its,rv,pl,hz⟩:=I.list hq
 have hi:=agD rv
 obtain⟨ys,hy⟩:=hi.allInts.items
 have hl:s.heap.IsList p (intItems ys):=by rw[←hy];exact pl.isList
 refine sum_intListG (I.ok.hd hc) hl fun h' tk t' hk=>?_
 have e1:is=ys.toList.map (·.1):=by
  rw[←nums_intItems,←hy]
  exact hi.numsOf.symm
 have e2:preSum (numAt ys) ys.size=is.sum:=by
  rw[preSum_eq,dO (by simp),e1]
 rw[e2]
 exact⟨.int is.sum,H,I.kept hk,⟨_,rfl⟩,q⟩
end
section
variable{X:Cx}{elt iter:Expr}{x y:Str}{px py pos spos:Pos}{ifs:List Expr}{scope:Scope}{wi:TI}{tt:TT}{te:TE}
theorem alM(N':List Str)(js:List Nat)(hi:Il X (.Name x px) iter wi)
  (ht:∀(cl:List (Str×Addr)) (C:Addr) (ex:List Addr) (pins:List (Addr×Obj)) (s:Shared) (H:Hp),Fs (aaN X (x::N') scope cl C ex pins s H) ifs tt)
  (he:∀(cl:List (Str×Addr)) (C:Addr) (ex:List Addr) (pins:List (Addr×Obj)) (s:Shared) (H:Hp),E (aaN X (x::N') scope cl C ex pins s H) elt te)
  (hcl:∃cl,Clos X scope cl:=by exact apJ rfl rfl rfl rfl) (hx:scope.names.lookup x=some .local:=by rfl) (hnd:(x::N').Nodup:=by decide +kernel) (hN:js.map (fun j=>X.N[j]?)=N'.map some:=by rfl)
  (hk:N'.all (fun y=>(X.env.kindOf y==some .cell)||(X.env.kindOf y==some .free))=true:=by rfl) (hf:N'.all (fun y=>scope.names.lookup y==some .free)=true:=by rfl) (hc:X.calm=true:=by rfl)
  (hs:∀x,foldedSetIterable iter X.env x=pure x:=by intro _;rfl):E X (.ListComp elt [⟨.Name x px,iter,ifs,0⟩] scope pos) (azB wi js tt te):=by
 obtain⟨cl,hcl⟩:=hcl
 exact⟨aCC hcl hx hnd hN hk hf hc hi.h (fun C ex pins s H=>(ht cl C ex pins s H).h) (fun C ex pins s H=>(he cl C ex pins s H).h) hs⟩
theorem aM1(i:Nat)(N':List Str)(js:List Nat)(hi:Il X (.Name x px) iter wi)
  (ht:∀(cl:List (Str×Addr)) (C:Addr) (ex:List Addr) (pins:List (Addr×Obj)) (s:Shared) (H:Hp),Fs (aaN X (x::N') scope cl C ex pins s H) ifs tt)
  (he:∀(cl:List (Str×Addr)) (C:Addr) (ex:List Addr) (pins:List (Addr×Obj)) (s:Shared) (H:Hp),E (aaN X (x::N') scope cl C ex pins s H) elt te)
  (hXN:X.N.Nodup) (hsw:swapsWith (.ListComp elt [⟨.Name x px,iter,ifs,0⟩] scope pos) (some (.Name y py)) spos.line X.env=pure true:=by rfl)
  (hiN:X.N[i]? =some y:=by rfl) (hy:X.env.scope.names.lookup y=some .local:=by rfl)
  (hcl:∃cl,Clos X scope cl:=by exact apJ rfl rfl rfl rfl) (hx:scope.names.lookup x=some .local:=by rfl) (hnd:(x::N').Nodup:=by decide +kernel) (hN:js.map (fun j=>X.N[j]?)=N'.map some:=by rfl)
  (hk:N'.all (fun y=>(X.env.kindOf y==some .cell)||(X.env.kindOf y==some .free))=true:=by rfl) (hf:N'.all (fun y=>scope.names.lookup y==some .free)=true:=by rfl) (hc:X.calm=true:=by rfl)
  (hs:∀x,foldedSetIterable iter X.env x=pure x:=by intro _;rfl):S X (.Assign [.Name y py] (.ListComp elt [⟨.Name x px,iter,ifs,0⟩] scope pos) spos) (asW (azB wi js tt te) (ac5 i)):=by
 obtain⟨cl,hcl⟩:=hcl
 refine⟨fun pins s σ H D I h=>?_⟩
 rw[exec_Assign_Name_used _ _ _ _ hsw]
 refine dW (wpAny_standAt (dW ?_))
 show wpAny _ X.A (do let _ ←comprehension (.ListComp elt [⟨.Name x px,iter,ifs,0⟩] scope pos) scope X.env _ (newList []) false (eval iter X.env) (some (assign (.Name y py) X.env))) _ _ s
 refine dW (dX (wpAny_comprehension_free (use:=some (assign (.Name y py) X.env)) (Q:=fun _ s'=>SP X pins D .next s') rfl hs hcl.is hcl.kind hcl.names ?_) (fun _ s' hq=>eJ (eJ hq)) fun _ _ z=>z)
 refine thn (hi.h pins s σ H _ I h) fun xv s₁ h₁=>thn h₁ fun itv s₂ h₂=>?_
 obtain⟨it,fp,tn,J,H2,rfl,I2,T,st,hfp,q⟩:=h₂
 refine akE (Q:=fun v H'=>D.nx (σ.set i (some v)) H') (RR:=fun acc C=>compPost (model X.prog X.w) X.A X.xe (some (assign (.Name y py) X.env)) (fun _ s'=>SP X pins D .next s') acc C) hcl hx hnd hN hk hf hc (fun C ex pins s H=>(ht cl C ex pins s H).h) (fun C ex pins s H=>(he cl C ex pins s H).h) I2 T st hfp q ?_
 intro D' C s' H' m I' hC0 hCL hCs hCc hCp hn hq
 show wpAny _ _ (assign (.Name y py) X.env (.ref D')) _ _ s'
 refine wpAny_assign_Name (anJ I' hXN hiN (.inl hy) (v:=.ref D') rfl (fun s3 I3 sb3=>?_) (.inr hy))
 obtain⟨a3,sb3,e3⟩:=sb3
 have hCa:C≠a3:=by
  rcases e3 with e3 | e3
  ·rw[e3];exact hCL
  ·exact fun z=>hCc y a3 e3 z.symm
 refine⟨m,hn.sameBut sb3 hCa,fun h' sb=>⟨σ.set i (some (.ref D')),H',?_,hq⟩⟩
 exact I3.turned (t':=s3.toks) (fun b o hb e=>(sb.2 b hb).trans e) hC0 hCL (.inr hCs) hCc hCp
theorem fsN:Fs X [] aO5:=⟨aFX⟩
theorem fs1{c:Expr}(h:T X c tt):Fs X [c] tt:=⟨aE2 h.h⟩
theorem cSum(hc:X.calm=true:=by rfl):Cl1 X (.builtin "sum") (fun xs H Q=>∃(p:Addr) (is:List Int),xs=[.ref p]/\SqL X.K H p (is.map V.int)/\Q (.int is.sum) H):=⟨aw1 hc⟩
theorem gTu{es:List Expr}{k n:Nat}{t:TGs}(h:Gts X es t)(hc:X.calm=true:=by rfl)(hn:(assignEach es X.env).length=n:=by rfl)(hst:(assignEach es X.env).findIdx? (·.1)=none:=by rfl):Gt X (.Tuple es k pos) (aBK X.K n t):=⟨aEE hc h.h hn hst⟩
theorem gsN:Gts X [] aFV:=⟨aCA⟩
theorem gsC{e:Expr}{es:List Expr}{t:TG}{u:TGs}(h1:Gt X e t)(h2:Gts X es u)(hs:(assignEach (e::es) X.env).map (·.2)=assign e X.env::(assignEach es X.env).map (·.2):=by rfl):Gts X (e::es) (au7 t u):=⟨ayV h1.h h2.h hs⟩
theorem aJJ{tg e:Expr}{g:TG}(he:E X e te)(hg:Gt X tg g)(hs:swapsWithSole [tg] e pos.line X.env=pure false:=by rfl)(hw:swappedStores [tg] e X.env=pure none:=by rfl)
  (h1:(assignEach [tg] X.env).map (·.2)=[assign tg X.env]:=by rfl):S X (.Assign [tg] e pos) (asW te g):=⟨aFY he.h hg.h hs hw h1⟩
end
section
variable{js:List Nat}{σ:St}{tt:TT}{te:TE}{Q:VK}{H1:Hp}
theorem amR{K:FG}{a:Addr}{xs:List V}(R:Nat->List V->Prop)(hn:xs.length<=sizeLine)(h0:R 0 [])(hq:SqL K H1 a xs)
  (hs:∀(i:Nat) (v:V) (l:List V) (D:Addr) (H2:Hp) (E:V->Hp->Prop) (F:Hp->Prop),xs[i]? =some v->R i l->H1 D=none->Same H1 H2->H2 D=some (.lst l)->(∀y H5,Same H2 H5->R (i+1) (l++[y])->E y H5)->(∀H4,Same H2 H4->R (i+1) l->F H4)->
   tt (some v::aa3 js σ) H2 fun b H4=>if b=true then te (some v::aa3 js σ) H4 E else F H4)
  (hd:∀(D:Addr) (H2:Hp) (l:List V),R xs.length l->H1 D=none->Same H1 H2->H2 D=some (.lst l)->Q (.ref D) H2):auN (Itl K a) js σ tt te Q H1:=by
 intro D hD
 refine⟨fun i m H2=>m=xs.length-i/\i<=xs.length/\Same H1 H2/\∃l,H2 D=some (.lst l)/\l.length<=i/\R i l,⟨xs.length,by simp,bK _,aaB hD _,[],aaA,aS _,h0⟩,?_⟩
 rintro i m H2 ⟨rfl,hi,s2,l,h2,hll,hR⟩
 by_cases hlt:i<xs.length
 ·refine .inr ⟨⟨xs,xs[i],s2.seq hq,by simp[hlt]⟩,fun v H3 y=>?_⟩
  obtain⟨e,ev⟩:=y
  subst e
  have hv:=ev xs (s2.seq hq)
  refine hs i v l D _ _ _ hv hR hD s2 h2 (fun z H5 s5 r5=>?_) (fun H4 s4 r4=>?_)
  ·refine⟨l,s5 _ _ h2,dI hll (a9 hlt hn),xs.length-(i+1),by omega,rfl,hlt,fun b o hb=>?_,l++[z],aaA,by rw[bC,cL];omega,r5⟩
   rw[aaF (aaG hb hD)]
   exact s5 _ _ (s2 _ _ hb)
  ·exact⟨xs.length-(i+1),by omega,rfl,hlt,s2.trans s4,l,s4 _ _ h2,by omega,r4⟩
 ·have e:i=xs.length:=by omega
  subst e
  exact .inl ⟨⟨xs,s2.seq hq,aS _⟩,hd D H2 l hR hD s2 h2⟩
noncomputable def IntsR(i:Nat)(l:List V):Prop:=∃zs:List Int,l=zs.map V.int/\zs.length<=i
theorem IntsR.nil:IntsR 0 []:=⟨[],rfl,aS _⟩
theorem IntsR.one{i:Nat}{l:List V}(h:IntsR i l)(z:Int):IntsR (i+1) (l++[.int z]):=by
 obtain⟨zs,rfl,hl⟩:=h
 exact⟨zs++[z],by rw[bH];rfl,by rw[bC,cL];omega⟩
theorem Same.tup{K:FG}{H H':Hp}{a:Addr}{xs:List V}(e:Same H H')(h:SqT K H a xs):SqT K H' a xs:=by
 rcases h with (h | ⟨o,h⟩) | h
 ·exact .inl (.inl (e _ _ h))
 ·exact .inl (.inr ⟨o,e _ _ h⟩)
 ·exact .inr h
theorem amL{α:Type}(f:Nat->α)(n:Nat):(List.range (n+1)).map f=(List.range n).map f++[f n]:=by rw[List.range_succ,bH];rfl
theorem ag5{c:TT}{tb:TS}{D:Ends}{σ:St}{H:Hp}(Pv:St->Hp->Prop)(μ:St->Hp->Nat)(h0:Pv σ H)
  (hs:∀σ H,Pv σ H->c σ H fun b H1=>if b=true then ∃N:St->Hp->Prop,(∀σ' H',N σ' H'->∃m',m'<μ σ H/\m'=μ σ' H'/\Pv σ' H')/\tb {D with nx:=N,ct:=N,bk:=D.nx} σ H1 else D.nx σ H1):atV c tb D σ H:=
 ⟨fun m σ H=>m=μ σ H/\Pv σ H,⟨_,rfl,h0⟩,by
  rintro m σ H ⟨rfl,p⟩
  exact hs σ H p⟩
theorem aqM{X:Cx}:Op1 X (unaryOp .USub) (rU fun i=>.int (-i)):=⟨aF9⟩
end
section
variable{prog:Program}{w:World}{A:Around}{E:Value->Shared->Prop}{s:Shared}
end
section
variable{X:Cx}{pos:Pos}
theorem arB{o e:Expr}{to te:TE}{apos cpos:Pos}(ho:E X o to)(he:E X e te)(hbase:attributeBase o "append" X.env (eval o X.env)=eval o X.env:=by rfl)
  (hfew:((backTo cpos (starEach [e] X.env)).all (fun x=> !x.1)&&(backToKw cpos (keywordEach [] X.env)).all (fun x=>x.1.isSome)&&decide (([e]:List Expr).length+([]:List Keyword).length+(if ([]:List Keyword).isEmpty then 0 else 1)<30))=true:=by rfl)
  (hline:(apos.endLine==cpos.line)=true:=by rfl) (hs:starEach [e] X.env=(false,eval e X.env)::starEach [] X.env:=by rfl) (hplain:(backTo cpos (starEach [] X.env)).any (·.1)=false:=by rfl):
  E X (.Call (.Attribute o "append" apos) [e] [] cpos) (tBM X.K "list" au6 to (adX te akI)):=
 ⟨arR PySem.F.plainAttrs_list PySem.F.slot_list_append PySem.F.type_list_append ahE ho.h (acY he.h aeG hs) hbase hfew hline hs hplain⟩
end
section
variable{js:List Nat}{σ:St}{tt:TT}{te:TE}{Q:VK}{H1:Hp}
end
noncomputable def Digs(ds ss:List Int):Prop:=Paired (fun d z:Int=>0<=d/\d<z) ds ss
theorem Digs.snoc{ds ss:List Int}{d z:Int}(h:Digs ds ss)(h0:0<=d)(h1:d<z):Digs (ds++[d]) (ss++[z]):=Paired.snoc h ⟨h0,h1⟩
theorem Digs.len{ds ss:List Int}(h:Digs ds ss):ds.length=ss.length:=Paired.length h
theorem ab7{H H2:Hp}{p:Addr}{o:HO}(hn:H p=none)(s:Same H H2):Same H (upd H2 p o):=fun b u h=>by
 rw[aaF (aaG h hn)]
 exact s b u h
theorem aK5{a m b:Int}(h0:0<m)(h1:m<=18446744073709551616):CMul (a%m) b:=.inl ⟨Int.lt_of_lt_of_le (by decide) (cN a (Int.ne_of_gt h0)),Int.lt_of_lt_of_le (c7 a h0) h1⟩
theorem aKZ:(10:Int)^(18:Int).toNat=1000000000000000000:=by decide +kernel
structure FnM(K:FG)(C:Addr)(m qual:Str)(st:Stmt)(ps:List Str):Prop where
 ex:∃(f:Addr) (fd:FuncData),Fun K m qual st f fd/\Binds K fd ps []/\Meth K C m f
structure DfM(P:Program)(w:World)(K:FG)(mg:Str->Option Value)(base:Heap)(C:Addr)(m:Str)(k:Nat)(ps:List Str)(sp:Sp):Prop where
 ex:∃(f:Addr) (fd:FuncData),FnOk P w K mg base CX0 k f fd ps sp/\Binds K fd ps []/\Meth K C m f
structure Cd(K:FG)(mg:Str->Option Value)(x:Str)(C:Addr):Prop where
 at_:mg x=some (.ref C)
 cl:Cls K C
 makes:PySem.W.makesIn K C=true
 kp:PySem.W.keepIn K (.ref C)=true
section
variable{P:Program}{w:World}{K:FG}{mg:Str->Option Value}{base:Heap}{m qual:Str}{st:Stmt}{ps N:List Str}{k:Nat}{sp:Sp}{C:Addr}
theorem FnM.dfs(F:FnM K C m qual st ps)(S':FnScope N ps (aaC st))(len:∀vs H Q E,sp vs H Q E->vs.length=ps.length)
  (hbody:∀(f:Addr) (cdv:Value) (A:Around) (outer:List Env) (s:Shared) (H:Hp) (vs:List V) (Q:VK) (E:XK),Room k (A.deeper (envOfC qual (aaC st) s.heap.objs.size f cdv))->sp vs H Q E->
   ∃t,Ss (ai2 CX0 P w K mg base N qual (aaC st) f cdv A outer s H E).nox (aaV st) t/\t {nx:=fun _ H'=>Q .non H',rt:=Q} (start N vs) H):DfM P w K mg base C m (k+1) ps sp:=by
 obtain⟨f,fd,F1,hb,hm⟩:=F.ex
 refine⟨⟨f,fd,F1.ok S' len fun cdv A outer s H vs Q E hr h=>?_,hb,hm⟩⟩
 obtain⟨t,h1,h2⟩:=hbody f cdv A outer s H vs Q E hr h
 exact⟨t,h1.h,h2⟩
theorem abH{f:Addr}{oc:Value}{od an:Option Addr}{osl:Array (Option Value)}{kV doc pm cdv ct:Value}
  (a:PySem.W.findIn K (.ref C) m=some (some (.ref f))) (i:PySem.W.isFn K (.ref f)=true) (l:K.lookup f=some ⟨oc,od,.func (PySem.W.fnOf m qual (aa5 st) (aaV st) (aaC st) .none kV doc pm an cdv ct),osl⟩)
  (c:PySem.W.codeIn K cdv qual=true) (k:PySem.W.keepIn K (.ref f)=true)
  (hb:∀(kV doc pm:Value) (an:Option Addr) (cdv ct:Value) (us:List Value),us.length=ps.length->bindArgs (PySem.W.fnOf m qual (aa5 st) (aaV st) (aaC st) .none kV doc pm an cdv ct) ⟨us,[]⟩=pure (ps.zip us)):FnM K C m qual st ps:=by
 have F:=apM (st:=st) l c k
 exact⟨⟨f,_,F,F.binds (ps:=ps) hb,⟨a,i,k⟩⟩⟩
end
section
variable{X:Cx}{x m:Str}{C:Addr}{k k':Nat}{ps:List Str}{sp:Sp}{e o value:Expr}{es:List Expr}{ta tv:TE}{t:TA}{p pos apos pos':Pos}{f:Str}
theorem eMk(c:Cd X.K X.mg x C)(D:DfM X.prog X.w X.K X.mg X.base C "__init__" k ps sp)(hr:Room k' X.A)(ha:As X (e::es) t)(hk:k+1<=k':=by decide)(hg:Gl X x:=by rfl)(hdb:(x==("__debug__":Str))=false:=by decide)
  (he:starEach (e::es) X.env=(false,eval e X.env)::starEach es X.env:=by rfl) (hpl:(backTo pos (starEach es X.env)).any (·.1)=false:=by rfl):E X (.Call (.Name x p) (e::es) [] pos) (avW C sp [] E0 t):=by
 obtain⟨f,fd,F,hb,hm⟩:=D.ex
 exact⟨aB6 ⟨c.makes,hm.at_,hm.fn,c.kp⟩ F (hr.mono hk) hg c.at_ hb .nil apW ha.h hdb he hpl⟩
theorem eMe{pl:Sem Bool}(c:Cls X.K C)(D:DfM X.prog X.w X.K X.mg X.base C m k ps sp)(hr:Room k' X.A)(ho:E X o ta)(ha:As X (e::es) t)(hk:k<=k':=by decide)
  (hst:starEach (e::es) X.env=(false,eval e X.env)::starEach es X.env:=by rfl) (hpl:(backTo pos (starEach es X.env)).any (·.1)=false:=by rfl)
  (ht:eval (.Call (.Attribute o m apos) (e::es) [] pos) X.env=(do
   let ov ←eval o X.env
   standAt apos.atName
   let (f,first) ←holding [ov] (getMethod ov m pl)
   callWith pos f first (backTo pos (starEach (e::es) X.env)) (backToKw pos (keywordEach [] X.env))):=by rfl):E X (.Call (.Attribute o m apos) (e::es) [] pos) (aAN C m sp [] E0 ta t):=by
 obtain⟨f,fd,F,hb,hm⟩:=D.ex
 exact⟨aCV ho.h c hm F (hr.mono hk) hb .nil apW ha.h hst hpl ht⟩
theorem eFl(he:E X e ta)(hb:attributeBase e f X.env (eval e X.env)=eval e X.env:=by rfl):E X (.Attribute e f pos) (aEG X.K ta f):=⟨aF4 he.h hb⟩
theorem sFl(ha:E X o ta)(hv:E X value tv)(hs:swapsWith value (some (.Attribute o f pos')) pos.line X.env=pure false:=by rfl):S X (.Assign [.Attribute o f pos'] value pos) (aPQ X.K ta tv f):=⟨aF2 ha.h hv.h hs⟩
noncomputable def tMkN(C:Addr):TE:=fun _ H Q=>∀x dx,H x=none->H dx=none->dx≠x->Q (.ref x) (upd (upd H dx (.own x)) x (.ins C dx []))
theorem eMkN(c:Cd X.K X.mg x C)(hi:PySem.W.findIn X.K (.ref C) "__init__"=some (some (.builtin "object.__init__")))(hg:Gl X x:=by rfl)(hdb:(x==("__debug__":Str))=false:=by decide):E X (.Call (.Name x p) [] [] pos) (tMkN C):=by
 refine⟨fun pins s σ H Q I h=>?_⟩
 refine eG (aeS I hg c.at_ ?_ hdb)
 refine PySem.W.callWith_K0 I.kIn c.kp (wpAny_call ?_)
 have hq:=h (s.heap.objs.size+1) s.heap.objs.size (I.hok.fresh (Nat.le_succ _)) (I.hok.fresh (aS _)) (aX (cY _))
 have I2:=Inv.made (C:=C) I
 have e2:((s.heap.push PySem.W.emptyDict).push (PySem.W.instObj C s.heap.objs.size)).get? (s.heap.objs.size+1)=some (PySem.W.instObj C s.heap.objs.size):=by
  have:=bD (s.heap.push PySem.W.emptyDict) (o:=PySem.W.instObj C s.heap.objs.size) rfl
  rwa [cH] at this
 have Y:=PySem.W.makes_of (M:=model X.prog X.w) I.kIn c.makes
 refine awG I.kIn c.makes hi (fun self=>PySem.W.Looks.of_pure (PySem.W.oi_bind self)) ?_
 have t1:PySem.W.Looks (model X.prog X.w) ((s.heap.push PySem.W.emptyDict).push (PySem.W.instObj C s.heap.objs.size)) (typeOf (.ref (s.heap.objs.size+1))) (.ref C):=(PySem.W.Looks.ld e2).andThen .now
 have t2:PySem.W.Looks (model X.prog X.w) ((s.heap.push PySem.W.emptyDict).push (PySem.W.instObj C s.heap.objs.size)) (isInstance (.ref (s.heap.objs.size+1)) (.type "object")) true:=t1.andThen (Y.top.keeps fun b o q=>aW _ (aW _ q))
 refine codeAny_call_builtin PySem.W.oi_plain PySem.W.entry_oi (@PySem.W.check_slot (model X.prog X.w) _ _ _ "object.__init__" "object" "__init__" (.ref (s.heap.objs.size+1)) [] [] _ PySem.W.oi_kind PySem.W.oi_split t2 (PySem.W.oi_args (.ref (s.heap.objs.size+1))) ?_)
 rw[PySem.W.oi_run]
 exact eJ (And.intro rfl ⟨V.ref (s.heap.objs.size+1),_,I2,rfl,hq⟩)
end
structure Po(X:Cx)(o:Option Expr)(t:TO):Prop where
 h:PO X o t
structure Sls(X:Cx)(r:V->Option Int->Option Int->Hp->VK->Prop):Prop where
 h:SlR X r
section
variable{X:Cx}{e:Expr}{te:TE}{lo hi:Option Expr}{tl th:TO}{pos p2:Pos}
theorem poN:Po X none auR:=⟨aBP⟩
theorem poS(h:E X e te):Po X (some e) (aC5 te):=⟨aBF h.h⟩
theorem slL:Sls X (aO4 X.K):=⟨aBZ⟩
theorem eSl{r:V->Option Int->Option Int->Hp->VK->Prop}(hr:Sls X r)(he:E X e te)(hl:Po X lo tl)(hu:Po X hi th):E X (.Subscript e (.Slice lo hi none p2) pos) (tSl r te tl th):=⟨aAS hr.h he.h hl.h hu.h⟩
end
noncomputable def aMI(xs:List Int)(lo hi:Option Int):List Int:=(xs.drop (HT.sIx xs.length 0 lo)).take (HT.sIx xs.length xs.length hi-HT.sIx xs.length 0 lo)
structure FunD(K:FG)(x qual:Str)(st:Stmt)(f:Addr)(fd:FuncData):Prop where
 ex:∃(oc:Value) (od:Option Addr) (dV kV doc pm:Value) (an:Option Addr) (cdv ct:Value) (osl:Array (Option Value)),
  fd=PySem.W.fnOf x qual (aa5 st) (aaV st) (aaC st) dV kV doc pm an cdv ct/\K.lookup f=some ⟨oc,od,.func fd,osl⟩/\PySem.W.codeIn K cdv qual=true
 kp:PySem.W.keepIn K (.ref f)=true
structure FnMD(K:FG)(C:Addr)(m qual:Str)(st:Stmt)(ps:List Str)(dvs:List V):Prop where
 ex:∃(f:Addr) (fd:FuncData) (ds:List Value),FunD K m qual st f fd/\Binds K fd ps []/\Vals dvs ds/\Binds K fd ps ds/\Meth K C m f
structure DfMD(P:Program)(w:World)(K:FG)(mg:Str->Option Value)(base:Heap)(C:Addr)(m:Str)(k:Nat)(ps:List Str)(sp:Sp)(dvs:List V):Prop where
 ex:∃(f:Addr) (fd:FuncData) (ds:List Value),FnOk P w K mg base CX0 k f fd ps sp/\Binds K fd ps []/\Vals dvs ds/\Binds K fd ps ds/\Meth K C m f
section
variable{P:Program}{w:World}{K:FG}{mg:Str->Option Value}{base:Heap}{m qual:Str}{st:Stmt}{ps N:List Str}{k:Nat}{sp:Sp}{C:Addr}{dvs:List V}
theorem DfMD.dfm(D:DfMD P w K mg base C m k ps sp dvs):DfM P w K mg base C m k ps sp:=by
 obtain⟨f,fd,ds,a,b,_,_,e⟩:=D.ex
 exact⟨⟨f,fd,a,b,e⟩⟩
theorem FnMD.dfs(F:FnMD K C m qual st ps dvs)(S':FnScope N ps (aaC st))(len:∀vs H Q E,sp vs H Q E->vs.length=ps.length)
  (hbody:∀(f:Addr) (cdv:Value) (A:Around) (outer:List Env) (s:Shared) (H:Hp) (vs:List V) (Q:VK) (E:XK),Room k (A.deeper (envOfC qual (aaC st) s.heap.objs.size f cdv))->sp vs H Q E->
   ∃t,Ss (ai2 CX0 P w K mg base N qual (aaC st) f cdv A outer s H E).nox (aaV st) t/\t {nx:=fun _ H'=>Q .non H',rt:=Q} (start N vs) H):DfMD P w K mg base C m (k+1) ps sp dvs:=by
 obtain⟨f,fd,ds,F1,hb,hv,hbd,hm⟩:=F.ex
 refine⟨⟨f,fd,ds,?_,hb,hv,hbd,hm⟩⟩
 obtain⟨oc,od,dV,kV,doc,pm,an,cdv,ct,osl,rfl,lk,hcd⟩:=F1.ex
 refine azL lk hcd S' len fun A outer s H vs Q E hr hsp=>?_
 obtain⟨t,h,q⟩:=hbody f cdv A outer s H vs Q E hr hsp
 exact⟨t,h.h.nox,q⟩
theorem aB1{f:Addr}{oc:Value}{od an:Option Addr}{osl:Array (Option Value)}{dV kV doc pm cdv ct:Value}{ds:List Value}
  (a:PySem.W.findIn K (.ref C) m=some (some (.ref f))) (i:PySem.W.isFn K (.ref f)=true) (l:K.lookup f=some ⟨oc,od,.func (PySem.W.fnOf m qual (aa5 st) (aaV st) (aaC st) dV kV doc pm an cdv ct),osl⟩)
  (c:PySem.W.codeIn K cdv qual=true) (k:PySem.W.keepIn K (.ref f)=true)
  (hb:Binds K (PySem.W.fnOf m qual (aa5 st) (aaV st) (aaC st) dV kV doc pm an cdv ct) ps []) (hv:Vals dvs ds) (hd:Binds K (PySem.W.fnOf m qual (aa5 st) (aaV st) (aaC st) dV kV doc pm an cdv ct) ps ds):FnMD K C m qual st ps dvs:=
 ⟨⟨f,_,ds,⟨⟨oc,od,dV,kV,doc,pm,an,cdv,ct,osl,rfl,l,c⟩,k⟩,hb,hv,hd,⟨a,i,k⟩⟩⟩
end
section
variable{X:Cx}{x:Str}{C:Addr}{k k':Nat}{ps:List Str}{sp:Sp}{p pos:Pos}{dvs:List V}
theorem eMkD(c:Cd X.K X.mg x C)(D:DfMD X.prog X.w X.K X.mg X.base C "__init__" k ps sp dvs)(hr:Room k' X.A)(hk:k+1<=k':=by decide)(hg:Gl X x:=by rfl)(hdb:(x==("__debug__":Str))=false:=by decide):
  E X (.Call (.Name x p) [] [] pos) (avW C sp dvs E0 akI):=by
 obtain⟨f,fd,ds,F,_,hv,hb,hm⟩:=D.ex
 exact⟨azY ⟨c.makes,hm.at_,hm.fn,c.kp⟩ F (hr.mono hk) hg c.at_ hb hv apW hdb⟩
end
theorem akC{H:Hp}{xo dx:Addr}{a b:HO}(nx:H xo=none)(ndx:H dx=none):Same H (upd (upd H dx a) xo b):=fun z u hb=>by
 rw[aaF (aaG hb nx),aaF (aaG hb ndx)]
 exact hb
theorem acR{H:Hp}{xo dx:Addr}{a b c:HO}(nx:H xo=none)(ndx:H dx=none):Same H (upd (upd (upd H dx a) xo b) xo c):=fun z u hb=>by
 rw[aaF (aaG hb nx)]
 exact akC nx ndx z u hb
theorem azN{H:Hp}{xo dx:Addr}{a b c d:HO}(nx:H xo=none)(ndx:H dx=none):Same H (upd (upd (upd (upd H dx a) xo b) xo c) xo d):=fun z u hb=>by
 rw[aaF (aaG hb nx)]
 exact acR nx ndx z u hb
end L2
namespace L2
open PySem PyProof.Rows
noncomputable def aJ9(p:Nat->Bool):Nat->Nat
 |0=>0
 |n+1=>aJ9 p n+(if p n=true then 2^n else 0)
@[irreducible] noncomputable def cnt(p:Nat->Bool)(n:Nat):Nat:=aJ9 p n
theorem akH(p:Nat->Bool):cnt p 0=0:=by rw[cnt];rfl
theorem alP(p:Nat->Bool)(n:Nat):cnt p (n+1)=cnt p n+(if p n=true then 2^n else 0):=by rw[cnt,cnt];rfl
theorem atN(p:Nat->Bool):∀n,cnt p n<2^n
 |0=>by rw[akH];decide
 |n+1=>by
  have h:=atN p n
  rw[alP,Nat.pow_succ]
  split<;>omega
theorem au8(p:Nat->Bool):∀n i,(cnt p n).testBit i=(decide (i<n)&&p i)
 |0,i=>by rw[akH];simp
 |n+1,i=>by
  have h:=atN p n
  have ih:=au8 p n i
  rw[alP]
  by_cases hp:p n=true
  ·rw[if_pos hp,Nat.add_comm]
   rcases Nat.lt_trichotomy i n with hi | hi | hi
   ·rw[Nat.testBit_two_pow_add_gt hi,ih]
    simp[hi,cM hi]
   ·subst hi
    rw[Nat.testBit_two_pow_add_eq,ih]
    simp[hp]
   ·have h2:2^n+cnt p n<2^i:=a9 (by rw[Nat.pow_succ];omega) (Nat.pow_le_pow_right (by decide) hi)
    rw[Nat.testBit_lt_two_pow h2]
    have:¬i<n+1:=by omega
    simp[this]
  ·rw[if_neg hp,Nat.add_zero,ih]
   by_cases e:i=n
   ·subst e
    simp[hp]
   ·have:(i<n+1)↔(i<n):=by omega
    simp[this]
noncomputable def tb(m:Int)(i:Nat):Bool:=m.toNat.testBit i
theorem aa4(k:Nat):((2^k:Nat):Int)=(2:Int)^k:=by rw[Int.natCast_pow];rfl
theorem aaM(k:Nat):(0:Int)<2^k:=by rw[←aa4];exact Int.natCast_pos.mpr (Nat.two_pow_pos k)
theorem auZ{m:Int}(h:0<=m)(k:Nat):m / 2^k=((m.toNat >>> k:Nat):Int):=by
 obtain⟨n,rfl⟩:=cC h
 rw[bQ,Nat.shiftRight_eq_div_pow,←aa4,Int.natCast_ediv]
theorem avR(a b:Nat):Builtin.bitAnd (a:Int) (b:Int)=((a&&& b:Nat):Int):=bitAnd_pp (dA a) (dA b)
theorem an0(a b:Nat):Builtin.bitOr (a:Int) (b:Int)=((a||| b:Nat):Int):=by
 rw[bitOr_and,avR]
 have:=nat_or_add_and a b
 omega
theorem aeT{m:Int}(h:0<=m)(k:Nat):(Builtin.bitAnd (m / 2^k) 1=1)↔tb m k=true:=by
 rw[auZ h,show (1:Int)=((1:Nat):Int) from rfl,avR]
 unfold tb
 rw[Nat.testBit_eq_decide_div_mod_eq,Nat.shiftRight_eq_div_pow]
 have:m.toNat / 2^k&&& 1=m.toNat / 2^k%2:=Nat.and_two_pow_sub_one_eq_mod _ 1
 rw[this]
 simp only[eE]
 omega
theorem ag0{a b:Int}(ha:0<=a)(hb:0<=b):0<=Builtin.bitAnd a b:=by rw[bitAnd_pp ha hb];exact dA _
theorem ahZ{a b:Int}(ha:0<=a)(hb:0<=b):0<=Builtin.bitOr a b:=by
 obtain⟨x,rfl⟩:=cC ha
 obtain⟨y,rfl⟩:=cC hb
 rw[an0]
 exact dA _
theorem acL{a b:Int}(ha:0<=a)(hb:0<=b)(i:Nat):tb (Builtin.bitAnd a b) i=(tb a i&&tb b i):=by
 unfold tb
 rw[bitAnd_pp ha hb,bQ,Nat.testBit_and]
theorem amJ{a b:Int}(ha:0<=a)(hb:0<=b)(i:Nat):tb (Builtin.bitOr a b) i=(tb a i||tb b i):=by
 obtain⟨x,rfl⟩:=cC ha
 obtain⟨y,rfl⟩:=cC hb
 unfold tb
 rw[an0,bQ,Nat.testBit_or,bQ,bQ]
theorem an2(k i:Nat):tb (2^k) i=decide (k=i):=by
 unfold tb
 rw[←aa4,bQ,Nat.testBit_two_pow]
theorem aaT(i:Nat):tb 0 i=false:=by unfold tb;simp
theorem abM{a b:Int}(ha:0<=a)(hb:0<=b)(h:∀i,tb a i=tb b i):a=b:=by
 have:a.toNat=b.toNat:=Nat.eq_of_testBit_eq h
 omega
theorem anT{m:Int}(h:0<=m)(k i:Nat):tb (m*2^k) i=(decide (k<=i)&&tb m (i-k)):=by
 obtain⟨x,rfl⟩:=cC h
 unfold tb
 rw[←aa4,←Int.natCast_mul,bQ,bQ,←Nat.shiftLeft_eq,Nat.testBit_shiftLeft]
theorem ag9{m:Int}(h:0<=m)(k i:Nat):tb (m / 2^k) i=tb m (k+i):=by
 rw[auZ h]
 unfold tb
 rw[bQ,Nat.testBit_shiftRight]
theorem acV{m:Int}{n i:Nat}(h:m<2^n)(hi:n<=i):tb m i=false:=by
 unfold tb
 refine Nat.testBit_lt_two_pow (a9 ?_ (Nat.pow_le_pow_right (by decide) hi))
 by_cases h0:0<=m
 ·have:=aa4 n
  omega
 ·have:m.toNat=0:=by omega
  rw[this]
  exact Nat.two_pow_pos n
@[irreducible] noncomputable def mk_(p:Nat->Bool)(n:Nat):Int:=(cnt p n:Nat)
theorem anC(p:Nat->Bool)(n:Nat):mk_ p n=(cnt p n:Nat):=by rw[mk_]
theorem av3(p:Nat->Bool)(n:Nat):0<=mk_ p n:=by rw[anC];exact dA _
theorem aBH(p:Nat->Bool):mk_ p 0=0:=by rw[anC,akH];rfl
theorem au4(p:Nat->Bool)(n i:Nat):tb (mk_ p n) i=(decide (i<n)&&p i):=by
 unfold tb
 rw[anC,bQ,au8]
theorem avU(p:Nat->Bool)(n:Nat):mk_ p (n+1)=mk_ p n+(if p n=true then 2^n else 0):=by
 rw[anC,anC,alP,Int.natCast_add]
 split
 ·rw[aa4]
 ·rfl
theorem ax7(p:Nat->Bool)(n:Nat):mk_ p n<2^n:=by
 have:=atN p n
 have e:=aa4 n
 rw[anC]
 omega
theorem ajM(n i:Nat):tb (2^n-1) i=decide (i<n):=by
 have h:=aa4 n
 have:((2:Int)^n-1).toNat=2^n-1:=by
  have:=Nat.two_pow_pos n
  omega
 unfold tb
 rw[this,Nat.testBit_two_pow_sub_one]
noncomputable def aNE(p:Nat->Bool)(lo:Int):Nat->List Int
 |0=>[]
 |n+1=>aNE p lo n++(if p n=true then [lo+(n:Int)] else [])
@[irreducible] noncomputable def flt(p:Nat->Bool)(lo:Int)(n:Nat):List Int:=aNE p lo n
theorem alD(p:Nat->Bool)(lo:Int):flt p lo 0=[]:=by rw[flt];rfl
theorem aCE{p:Nat->Bool}{lo:Int}{α:Type}{f:Int->α}:[]=(flt p lo 0).map f:=by rw[alD];rfl
theorem asA(p:Nat->Bool)(lo:Int)(n:Nat):flt p lo (n+1)=flt p lo n++(if p n=true then [lo+(n:Int)] else []):=by rw[flt,flt];rfl
theorem apL{p:Nat->Bool}{lo:Int}{n:Nat}(h:p n=true):flt p lo (n+1)=flt p lo n++[lo+(n:Int)]:=by
 rw[asA,if_pos h]
theorem an6{p:Nat->Bool}{lo:Int}{n:Nat}(h:p n=false):flt p lo (n+1)=flt p lo n:=by
 rw[asA,h,if_neg bB,cI]
theorem flt_mem{p:Nat->Bool}{lo z:Int}:∀{n:Nat},z∈flt p lo n↔∃i,i<n/\p i=true/\z=lo+(i:Int)
 |0=>by rw[alD];exact⟨fun h=>(nomatch h),fun ⟨i,h,_⟩=>absurd h (cU i)⟩
 |n+1=>by
  by_cases c:p n=true
  ·rw[apL c,bV,flt_mem,bE]
   refine⟨fun h=>?_,fun ⟨i,h1,h2,h3⟩=>?_⟩
   ·rcases h with ⟨i,h1,h2,h3⟩ | h
    ·exact⟨i,by omega,h2,h3⟩
    ·exact⟨n,by omega,c,h⟩
   ·by_cases e:i=n
    ·subst e;exact .inr h3
    ·exact .inl ⟨i,by omega,h2,h3⟩
  ·rw[an6 (by simpa using c),flt_mem]
   refine⟨fun ⟨i,h1,h2,h3⟩=>⟨i,by omega,h2,h3⟩,fun ⟨i,h1,h2,h3⟩=>⟨i,?_,h2,h3⟩⟩
   have:i≠n:=fun e=>c (e▸h2)
   omega
theorem aEK{p:Nat->Bool}{lo:Int}{n k:Nat}(h:∀i,n<=i->p i=false)(hk:n<=k):flt p lo k=flt p lo n:=by
 obtain⟨d,rfl⟩:=Nat.exists_eq_add_of_le hk
 clear hk
 induction d with
 |zero=>rfl
 |succ d ih=>rw[show n+(d+1)=(n+d)+1 from rfl,an6 (h _ (by omega)),ih]
noncomputable def aaO(zs:List Int):Int:=zs.foldl (fun a z=>Builtin.bitOr a (1*2^z.toNat)) 0
theorem aj1(zs:List Int)(z:Int):aaO (zs++[z])=Builtin.bitOr (aaO zs) (1*2^z.toNat):=by unfold aaO;rw[List.foldl_append];rfl
theorem apU:∀(zs:List Int) (a:Int),0<=a->0<=zs.foldl (fun a z=>Builtin.bitOr a (1*2^z.toNat)) a/\∀i,tb (zs.foldl (fun a z=>Builtin.bitOr a (1*2^z.toNat)) a) i=(tb a i||zs.any fun z=>decide (z.toNat=i))
 |[],a,h=>⟨h,fun i=>by simp⟩
 |z::zs,a,h=>by
  have e:(1*2^z.toNat:Int)=2^z.toNat:=by omega
  have p:=bR (aaM z.toNat)
  obtain⟨h1,h2⟩:=apU zs (Builtin.bitOr a (1*2^z.toNat)) (by rw[e];exact ahZ h p)
  refine⟨h1,fun i=>?_⟩
  show tb (zs.foldl _ (Builtin.bitOr a (1*2^z.toNat))) i=_
  rw[h2 i,e,amJ h p,an2,bN,Bool.or_assoc]
theorem acH(zs:List Int):0<=aaO zs:=(apU zs 0 (aZ 0)).1
theorem abW(zs:List Int)(i:Nat):tb (aaO zs) i=zs.any fun z=>decide (z.toNat=i):=by
 have h:=(apU zs 0 (aZ 0)).2 i
 rw[aaT,c8] at h
 exact h
theorem avE{m:Int}(h:0<=m):m<2^Builtin.Int.intBits m:=by
 unfold Builtin.Int.intBits
 split
 ·rename_i c
  have:m=0:=by simpa using c
  rw[this]
  decide
 ·have:=Nat.lt_log2_self (n:=m.natAbs)
  have e:=aa4 (m.natAbs.log2+1)
  omega
theorem ajR{m:Int}{n:Nat}(h:0<=m)(hn:m<2^n):Builtin.Int.intBits m<=n:=by
 unfold Builtin.Int.intBits
 split
 ·exact bK _
 ·rename_i c
  have h0:m≠0:=by simpa using c
  have e:=aa4 n
  have:m.natAbs.log2<n:=(Nat.log2_lt (by omega)).mpr (by omega)
  omega
noncomputable def arO(m:Int):List Int:=flt (tb m) 0 (Builtin.Int.intBits m)
theorem anW{m:Int}{n:Nat}(h:0<=m)(hn:m<2^n):arO m=flt (tb m) 0 n:=
 (aEK (fun i hi=>acV (avE h) hi) (ajR h hn)).symm
theorem aCP{m:Int}(h:0<=m)(k:Nat):decide (Builtin.bitAnd (m / 2^k) 1=1)=tb m k:=by
 by_cases c:tb m k=true
 ·rw[c];exact eC ((aeT h _).mpr c)
 ·have c':tb m k=false:=by simpa using c
  rw[c'];exact eF fun q=>c ((aeT h _).mp q)
end L2
namespace L2
open PySem PyProof.Rows
theorem aK2{a b:Int}{n:Nat}(ha:0<=a)(hb:0<=b)(h1:a<2^n)(h2:b<2^n):Builtin.bitOr a b<2^n:=by
 obtain⟨x,rfl⟩:=cC ha
 obtain⟨y,rfl⟩:=cC hb
 have e:=aa4 n
 have:x||| y<2^n:=Nat.or_lt_two_pow (by omega) (by omega)
 rw[an0]
 omega
section
variable{X:Cx}{tg:Expr}
theorem avJ{a b c:Int}(hc:0<c):0<=Builtin.Range.rangeSize a b c:=by
 unfold Builtin.Range.rangeSize
 rw[if_pos hc]
 split
 ·have:0<=(b-a-1) / c:=dG (by omega) (by omega)
  omega
 ·exact aZ 0
end
noncomputable def aAQ(a:Addr)(lo hi st:Int):HO:=.ext fun h=>∃t u v,h.get? a=some {cls:=.type "range",data:=.fields #[.int lo t,.int hi u,.int st v]}
section
variable{X:Cx}
theorem ar5{pins:List (Addr×Obj)}{σ:St}{H:Hp}{s:Shared}{Q:VK}{lo hi st:Int}{t u v:Tok}{tk:Nat}(I:Inv X pins σ H s)(q:∀p,H p=none->Q (.ref p) (upd H p (aAQ p lo hi st))):
  EP X pins σ Q (.ref s.heap.objs.size) {s with heap:=s.heap.push {cls:=.type "range",data:=.fields #[.int lo t,.int hi u,.int st v]},toks:=tk}:=by
 refine⟨.ref s.heap.objs.size,upd H s.heap.objs.size (aAQ s.heap.objs.size lo hi st),I.laid (t':=tk) (fun b u e=>aW _ e) (aS _) ?_,rfl,q _ (I.hok.fresh (aS _))⟩
 have e:=bD s.heap (o:={cls:=.type "range",data:=.fields #[.int lo t,.int hi u,.int st v]}) rfl
 exact⟨⟨t,u,v,e⟩,⟨_,e⟩,fun h1 h2 ⟨t,u,v,z⟩ k=>⟨t,u,v,k _ z⟩⟩
theorem cRg1:Cl1 X (.type "range") (fun xs H Q=>∃j,xs=[.int j]/\∀p,H p=none->Q (.ref p) (upd H p (aAQ p 0 j 1))):=by
 refine⟨fun pins s σ H xs us Q I r h=>?_⟩
 obtain⟨j,rfl,q⟩:=h
 obtain⟨u,rfl,t,rfl⟩:=acE r
 exact call_range_1 (ar5 I q)
theorem cRg3:Cl1 X (.type "range") (fun xs H Q=>∃i j c,xs=[.int i,.int j,.int c]/\(0<c/\c<1073741824)/\∀p,H p=none->Q (.ref p) (upd H p (aAQ p i j c))):=by
 refine⟨fun pins s σ H xs us Q I r h=>?_⟩
 obtain⟨i,j,c,rfl,⟨c0,c1⟩,q⟩:=h
 cases r with
 |cons r rr=>
  cases rr with
  |cons r' rr=>
   cases rr with
   |cons r'' rr=>
    cases rr
    obtain⟨t,rfl⟩:=r
    obtain⟨t',rfl⟩:=r'
    obtain⟨t'',rfl⟩:=r''
    exact call_range_3 (Int.ne_of_gt c0) (ar5 I q) (.inl (PyProof.noPylong_small (by omega)))
theorem asU{lo st:Int}:∀{n:Nat} {acc:Array Value},ItemsOf (fun i v=>∃t,v=.int (lo+i*st) t) acc n->Vals ((List.range n).map fun i:Nat=>V.int (lo+i*st)) acc.toList:=by
 intro n acc h
 obtain⟨hz,hi⟩:=h
 have key:∀(m:Nat),m<=n->Vals ((List.range m).map fun i:Nat=>V.int (lo+i*st)) (acc.toList.take m):=by
  intro m
  induction m with
  |zero=>intro _;exact .nil
  |succ m ih=>
   intro hm
   have hlt:m<acc.toList.length:=by rw[bW];omega
   obtain⟨t,e⟩:=hi m acc.toList[m] (by rw[←cD];exact bS hlt)
   rw[List.range_succ,bH,b7,bS hlt]
   exact (ih (by omega)).append (.cons ⟨t,e⟩ .nil)
 have:=key n (aS _)
 rwa [dO (by rw[bW];omega)] at this
theorem cLR(hc:X.calm=true:=by rfl):Cl1 X (.type "list") (fun xs H Q=>∃(p:Addr) (lo hi st:Int) (n:Nat),xs=[.ref p]/\H p=some (aAQ p lo hi st)/\Builtin.Range.small lo hi st=true/\Builtin.Range.rangeSize lo hi st=(n:Int)/\n<=100000/\
  ∀l,H l=none->Q (.ref l) (upd H l (.lst ((List.range n).map fun i:Nat=>V.int (lo+i*st))))):=by
 refine⟨fun pins s σ H xs us Q I r h=>?_⟩
 obtain⟨p,lo,hi,st,n,rfl,hp,hs,hn,hl,q⟩:=h
 obtain⟨u,rfl,rx⟩:=acE r
 cases rx
 obtain⟨⟨t,u,v,e⟩,_,_⟩:=I.hok p _ hp
 refine call_list_range (I.ok.hd hc) e hs hn (bO hl (by decide)) fun h' tk acc c' kp hS hI=>?_
 have hz:((List.range n).map fun i:Nat=>V.int (lo+i*st)).length<=sizeLine:=by
  rw[aU,cE,dZ]
  omega
 exact⟨.ref s.heap.objs.size,_,I.laid (t':=tk) kp (aS _) (show ObjOk X.prog X.w _ h' _ (.lst _) from ⟨hz,acc.toList,c',asU hI,by simpa using hS⟩),rfl,q _ (I.hok.fresh (aS _))⟩
noncomputable def rBL:V->List V->Hp->VK->Prop:=fun x vs H Q=>∃i,x=.int i/\vs=[]/\Q (.int (Builtin.Int.intBits i:Nat)) H
theorem aOE:MtR X "int.bit_length" rBL:=by
 intro pins s σ H x xs v us Q I rx rv h
 obtain⟨i,rfl,rfl,q⟩:=h
 cases rv
 obtain⟨t,rfl⟩:=rx
 exact call_int_bit_length ⟨.int _,H,I.tok _,⟨_,rfl⟩,q⟩
theorem eBL{o:Expr}{to:TE}{apos cpos:Pos}(ho:E X o to)(hbase:attributeBase o "bit_length" X.env (eval o X.env)=eval o X.env:=by rfl)(hline:(apos.endLine==cpos.line)=true:=by rfl):
  E X (.Call (.Attribute o "bit_length" apos) [] [] cpos) (aIP X.K "int" rBL to):=⟨aFF PySem.F.plainAttrs_int PySem.F.slot_int_bit_length PySem.F.type_int_bit_length aOE ho.h hbase hline⟩
theorem ac4:Op2 X (compareOp .Is) (fun x y H Q=>y=.non/\Q (.bl (decide (x=.non))) H):=⟨aD2⟩
theorem aGX:Op2 X (compareOp .IsNot) (fun x y H Q=>y=.non/\Q (.bl (!decide (x=.non))) H):=⟨aCY⟩
theorem oIn:Op2 X (compareOp .In) (rIn X.K false):=⟨axQ⟩
theorem avT(z:Int):∀zs:List Int,inV (.int z) (zs.map V.int)=zs.any (fun y=>decide (y=z))
 |[]=>rfl
 |y::r=>by
  show (eqV (.int y) (.int z)||inV (.int z) (r.map V.int))=(decide (y=z)||r.any _)
  rw[avT z r]
  congr 1
end
theorem Same.none{H H':Hp}{D:Addr}(s:Same H H')(h:H' D=none):H D=none:=by
 cases e:H D with
 |none=>rfl
 |some o=>exact absurd (h.symm.trans (s _ _ e)) (by simp)
noncomputable def Keep(H H':Hp):Prop:=∀b o,(∀xs,o≠ .lst xs)->H b=some o->H' b=some o
theorem Same.keep{H H':Hp}(s:Same H H'):Keep H H':=fun b o _ h=>s b o h
theorem Keep.trans{H H1 H2:Hp}(a:Keep H H1)(b:Keep H1 H2):Keep H H2:=fun c o n h=>b c o n (a c o n h)
theorem alI{H:Hp}{D:Addr}{l l':List V}(h:H D=some (.lst l)):Keep H (upd H D (.lst l')):=fun b o n hb=>by
 by_cases e:b=D
 ·subst e
  rw[h] at hb
  cases hb
  exact absurd rfl (n l)
 ·rw[aaF e]
  exact hb
theorem Keep.tup{H H':Hp}(k:Keep H H'){b:Addr}{xs:List V}(h:H b=some (.tup xs)):H' b=some (.tup xs):=k b _ (fun _ z=>nomatch z) h
theorem Keep.ins{H H':Hp}(k:Keep H H'){b C dx:Addr}{fs:List (Str×V)}(h:H b=some (.ins C dx fs)):H' b=some (.ins C dx fs):=k b _ (fun _ z=>nomatch z) h
section
variable{js:List Nat}{σ:St}{tt:TT}{te:TE}{Q:VK}{H1:Hp}
end
section
variable{X:Cx}{K:FG}
end
inductive Kd where
 |int | bool | str | non | list | tuple | dict
noncomputable def Kd.nm:Kd->String
 |.int=>"int" | .bool=>"bool" | .str=>"str" | .non=>"NoneType" | .list=>"list" | .tuple=>"tuple" | .dict=>"dict"
noncomputable def Kd.isa:Kd->Kd->Bool
 |.int,.int=>true | .bool,.int=>true | .bool,.bool=>true | .str,.str=>true | .list,.list=>true | .tuple,.tuple=>true | .dict,.dict=>true | _,_=>false
noncomputable def KindV(K:FG)(H:Hp):V->Kd->Prop
 |.int _,k=>k=.int
 |.bl _,k=>k=.bool
 |.str _,k=>k=.str
 |.non,k=>k=.non
 |.ref a,k=>(k=.list/\∃xs,SqL K H a xs)∨(k=.tuple/\∃xs,SqT K H a xs)∨(k=.dict/\∃kvs,H a=some (.dK kvs))
 |_,_=>False
theorem cIs{X:Cx}:Cl1 X (.builtin "isinstance") (fun xs H Q=>∃(v:V) (n k:Kd),xs=[v,.ty n.nm]/\n.nm≠"NoneType"/\KindV X.K H v k/\Q (.bl (Kd.isa k n)) H):=by
 refine⟨fun pins s σ H xs us Q I r h=>?_⟩
 obtain⟨v,n,k,rfl,hn,hk,q⟩:=h
 obtain⟨u,w',rfl,r1,r2⟩:=apY r
 cases r2
 have fin:∀tk,EP X pins σ Q (.bool (Kd.isa k n)) {s with toks:=tk}:=fun tk=>⟨.bl _,H,I.tok _,rfl,q⟩
 have fin0:EP X pins σ Q (.bool (Kd.isa k n)) s:=⟨.bl _,H,I,rfl,q⟩
 cases v with
 |int i=>
  obtain⟨t,rfl⟩:=r1
  cases (show k=Kd.int from hk)
  cases n with
  |int=>exact PySem.IsiPair.int_int fin0
  |bool=>exact PySem.IsiPair.int_bool (fin _)
  |str=>exact PySem.IsiPair.int_str (fin _)
  |list=>exact PySem.IsiPair.int_list (fin _)
  |tuple=>exact PySem.IsiPair.int_tuple (fin _)
  |dict=>exact PySem.IsiPair.int_dict (fin _)
  |non=>exact absurd rfl hn
 |bl b=>
  cases r1
  cases (show k=Kd.bool from hk)
  cases n with
  |int=>exact PySem.IsiPair.bool_int fin0
  |bool=>exact PySem.IsiPair.bool_bool fin0
  |str=>exact PySem.IsiPair.bool_str (fin _)
  |list=>exact PySem.IsiPair.bool_list (fin _)
  |tuple=>exact PySem.IsiPair.bool_tuple (fin _)
  |dict=>exact PySem.IsiPair.bool_dict (fin _)
  |non=>exact absurd rfl hn
 |str x=>
  obtain⟨t,rfl⟩:=r1
  cases (show k=Kd.str from hk)
  cases n with
  |int=>exact PySem.IsiPair.str_int (fin _)
  |bool=>exact PySem.IsiPair.str_bool (fin _)
  |str=>exact PySem.IsiPair.str_str fin0
  |list=>exact PySem.IsiPair.str_list (fin _)
  |tuple=>exact PySem.IsiPair.str_tuple (fin _)
  |dict=>exact PySem.IsiPair.str_dict (fin _)
  |non=>exact absurd rfl hn
 |non=>
  cases r1
  cases (show k=Kd.non from hk)
  cases n with
  |int=>exact PySem.IsiPair.NoneType_int (fin _)
  |bool=>exact PySem.IsiPair.NoneType_bool (fin _)
  |str=>exact PySem.IsiPair.NoneType_str (fin _)
  |list=>exact PySem.IsiPair.NoneType_list (fin _)
  |tuple=>exact PySem.IsiPair.NoneType_tuple (fin _)
  |dict=>exact PySem.IsiPair.NoneType_dict (fin _)
  |non=>exact absurd rfl hn
 |ref a=>
  cases r1
  rcases hk with ⟨rfl,ys,hq⟩ | ⟨rfl,ys,hq⟩ | ⟨rfl,kvs,hq⟩
  ·obtain⟨its,rv,pl,_⟩:=I.list hq
   obtain⟨o,ho,hc,_⟩:=pl.isList
   cases n with
   |int=>exact PySem.IsiPair.list_int ho hc (fin _)
   |bool=>exact PySem.IsiPair.list_bool ho hc (fin _)
   |str=>exact PySem.IsiPair.list_str ho hc (fin _)
   |list=>exact PySem.IsiPair.list_list ho hc fin0
   |tuple=>exact PySem.IsiPair.list_tuple ho hc (fin _)
   |dict=>exact PySem.IsiPair.list_dict ho hc (fin _)
   |non=>exact absurd rfl hn
  ·obtain⟨its,rv,⟨o,ho,hc,_⟩,_⟩:=I.tuple hq
   cases n with
   |int=>exact PySem.IsiPair.tuple_int ho hc (fin _)
   |bool=>exact PySem.IsiPair.tuple_bool ho hc (fin _)
   |str=>exact PySem.IsiPair.tuple_str ho hc (fin _)
   |list=>exact PySem.IsiPair.tuple_list ho hc (fin _)
   |tuple=>exact PySem.IsiPair.tuple_tuple ho hc fin0
   |dict=>exact PySem.IsiPair.tuple_dict ho hc (fin _)
   |non=>exact absurd rfl hn
  ·obtain⟨_,_,_,_,o,_,_,ho,ex,_⟩:=I.hok a _ hq
   cases n with
   |int=>exact PySem.IsiPair.dict_int ho ex.1 (fin _)
   |bool=>exact PySem.IsiPair.dict_bool ho ex.1 (fin _)
   |str=>exact PySem.IsiPair.dict_str ho ex.1 (fin _)
   |list=>exact PySem.IsiPair.dict_list ho ex.1 (fin _)
   |tuple=>exact PySem.IsiPair.dict_tuple ho ex.1 (fin _)
   |dict=>exact PySem.IsiPair.dict_dict ho ex.1 fin0
   |non=>exact absurd rfl hn
 |byt b=>exact False.elim hk
 |flt b=>exact False.elim hk
 |ty n=>exact False.elim hk
end L2
namespace L2
open PySem PySem.Spec PyProof.Rows PySem.Builtin PySem.Builtin.Str
noncomputable abbrev Tx(l:List Nat):Str:=⟨l.toArray⟩
theorem Tx_inj{a b:List Nat}:Tx a=Tx b↔a=b:=⟨fun h=>by
 have:(Tx a).cps.toList=(Tx b).cps.toList:=by rw[h]
 simpa using this,fun h=>by rw[h]⟩
theorem aDI(x:Str):Tx x.cps.toList=x:=by cases x;simp
theorem abE(a:List Nat):(Tx a).length=a.length:=by simp[Str.length]
noncomputable def Itx(x:Str):It:=⟨fun i _=>i<x.cps.size,fun i H v H'=>H'=H/\∃c,x.cps[i]? =some c/\v=.str ⟨#[c]⟩,fun i _=>i=x.cps.size⟩
theorem av8{P:Program}{w:World}{K:FG}{tg:Expr}(x:Str)(t:Tok)(it:Addr):Turn P w K tg (Itx x) [it] it (fun i h=>h.IsStrIter it "str_ascii_iterator" x t i) where
 mem:=by simp
 obj:=fun i h st b hb=>by
  have e:b=it:=by simpa using hb
  subst e
  obtain⟨o,e,c,d⟩:=st
  exact⟨o,e,fun v z=>by rw[d] at z;cases z⟩
 keep:=fun i h h' st k=>by
  obtain⟨o,e,r⟩:=st
  exact⟨o,k it (by simp) o e,r⟩
 item:=by
  intro X hP hw hK hc i pins s σ H E I hf st hg
  subst hP hw hK
  obtain⟨f0,f1,f2,f3,f4,f5⟩:=hf it (by simp)
  have hg:i<x.cps.size:=hg
  refine wpAny_pyNext_ascii_item st (c:=x.cps[i]) (by simp[hg]) fun h' st' sb=>?_
  have I1:Inv X pins σ H {s with heap:=h',toks:=s.toks+1}:=I.turned (fun b o hb e=>sb.extBut b o hb e) f0 f1 f3 f4 f5
  obtain⟨o,e,c,d⟩:=id st'
  exact⟨_,rfl,arC (s:={s with heap:=h',toks:=s.toks+1}) e c d (by decide) ⟨.str ⟨#[x.cps[i]]⟩,H,I1,⟨_,rfl⟩,⟨rfl,x.cps[i],by simp[hg],rfl⟩,st',fun b hb=>(hf b hb).1⟩⟩
 done:=by
  intro X hP hw hK hc i pins s σ H E I hf st hg
  subst hP hw hK
  obtain⟨f0,f1,f2,f3,f4,f5⟩:=hf it (by simp)
  have hg:i=x.cps.size:=hg
  exact wpAny_pyNext_ascii_end (I.ok.hd hc) st (by simp[hg]) fun h' eb=>⟨rfl,I.turned (t':=s.toks) (fun b o hb e=>eb b o hb e) f0 f1 f3 f4 f5⟩
 self:=fun _ _ _ _ _ st h=>wpAny_pyIter_striter_ascii st h
theorem awV{P:Program}{w:World}{K:FG}{tg:Expr}(x:Str)(t:Tok)(it:Addr):Turn P w K tg (Itx x) [it] it (fun i h=>h.IsStrIter it "str_iterator" x t i) where
 mem:=by simp
 obj:=fun i h st b hb=>by
  have e:b=it:=by simpa using hb
  subst e
  obtain⟨o,e,c,d⟩:=st
  exact⟨o,e,fun v z=>by rw[d] at z;cases z⟩
 keep:=fun i h h' st k=>by
  obtain⟨o,e,r⟩:=st
  exact⟨o,k it (by simp) o e,r⟩
 item:=by
  intro X hP hw hK hc i pins s σ H E I hf st hg
  subst hP hw hK
  obtain⟨f0,f1,f2,f3,f4,f5⟩:=hf it (by simp)
  have hg:i<x.cps.size:=hg
  refine wpAny_pyNext_wide_item st (c:=x.cps[i]) (by simp[hg]) fun h' st' sb=>?_
  have I1:Inv X pins σ H {s with heap:=h',toks:=s.toks+1}:=I.turned (fun b o hb e=>sb.extBut b o hb e) f0 f1 f3 f4 f5
  obtain⟨o,e,c,d⟩:=id st'
  exact⟨_,rfl,arC (s:={s with heap:=h',toks:=s.toks+1}) e c d (by decide) ⟨.str ⟨#[x.cps[i]]⟩,H,I1,⟨_,rfl⟩,⟨rfl,x.cps[i],by simp[hg],rfl⟩,st',fun b hb=>(hf b hb).1⟩⟩
 done:=by
  intro X hP hw hK hc i pins s σ H E I hf st hg
  subst hP hw hK
  obtain⟨f0,f1,f2,f3,f4,f5⟩:=hf it (by simp)
  have hg:i=x.cps.size:=hg
  exact wpAny_pyNext_wide_end (I.ok.hd hc) st (by simp[hg]) fun h' eb=>⟨rfl,I.turned (t':=s.toks) (fun b o hb e=>eb b o hb e) f0 f1 f3 f4 f5⟩
 self:=fun _ _ _ _ _ st h=>wpAny_pyIter_striter_wide st h
section
variable{X:Cx}{tg:Expr}
noncomputable def iTxt(tl:TE):TI:=fun σ H R=>tl σ H fun x H1=>∃z,x=.str z/\R (Itx z) H1
theorem iX{l:Expr}{tl:TE}(hl:E X l tl):Il X tg l (iTxt tl):=by
 refine⟨fun pins s σ H R I h=>?_⟩
 refine thn (hl.h pins s σ H _ I h) fun u s1 ⟨x,H1,I1,r1,q1⟩=>?_
 obtain⟨z,rfl,q⟩:=q1
 obtain⟨t,rfl⟩:=r1
 have fp:∀b∈[s1.heap.objs.size],adF X pins H1 b:=fun b hb=>by
  have e:b=s1.heap.objs.size:=by simpa using hb
  subst e
  exact I1.fpOk (aS _) (I1.hok.fresh (aS _))
 cases ha:z.cps.all (·<128)
 ·exact wpAny_pyIter_wide ha ⟨s1.heap.objs.size,[s1.heap.objs.size],_,_,H1,rfl,I1.kept (t':=s1.toks) fun b o e=>aW _ e,awV z t _,⟨_,bD _ rfl,rfl,rfl⟩,fp,q⟩
 ·exact wpAny_pyIter_ascii ha ⟨s1.heap.objs.size,[s1.heap.objs.size],_,_,H1,rfl,I1.kept (t':=s1.toks) fun b o e=>aW _ e,av8 z t _,⟨_,bD _ rfl,rfl,rfl⟩,fp,q⟩
end
section
variable{js:List Nat}{σ:St}{tt:TT}{te:TE}{Q:VK}{H1:Hp}
theorem aAM{xs:List Nat}(R:Nat->List V->Prop)(hn:xs.length<=sizeLine)(h0:R 0 [])
  (hs:∀(i:Nat) (c:Nat) (l:List V) (D:Addr) (H2:Hp) (E:V->Hp->Prop) (F:Hp->Prop),xs[i]? =some c->R i l->H1 D=none->Same H1 H2->H2 D=some (.lst l)->(∀y H5,Same H2 H5->R (i+1) (l++[y])->E y H5)->(∀H4,Same H2 H4->R (i+1) l->F H4)->
   tt (some (.str (Tx [c]))::aa3 js σ) H2 fun b H4=>if b=true then te (some (.str (Tx [c]))::aa3 js σ) H4 E else F H4)
  (hd:∀(D:Addr) (H2:Hp) (l:List V),R xs.length l->H1 D=none->Same H1 H2->H2 D=some (.lst l)->Q (.ref D) H2):auN (Itx (Tx xs)) js σ tt te Q H1:=by
 intro D hD
 have hz:(Tx xs).cps.size=xs.length:=by simp
 refine⟨fun i m H2=>m=xs.length-i/\i<=xs.length/\Same H1 H2/\∃l,H2 D=some (.lst l)/\l.length<=i/\R i l,⟨xs.length,by simp,bK _,aaB hD _,[],aaA,aS _,h0⟩,?_⟩
 rintro i m H2 ⟨rfl,hi,s2,l,h2,hll,hR⟩
 by_cases hlt:i<xs.length
 ·refine .inr ⟨show i<(Tx xs).cps.size by rw[hz];exact hlt,fun v H3 y=>?_⟩
  obtain⟨e,c,ec,ev⟩:=y
  subst e ev
  refine hs i c l D _ _ _ (by simpa using ec) hR hD s2 h2 (fun z H5 s5 r5=>?_) (fun H4 s4 r4=>?_)
  ·refine⟨l,s5 _ _ h2,dI hll (a9 hlt hn),xs.length-(i+1),by omega,rfl,hlt,fun b o hb=>?_,l++[z],aaA,by rw[bC,cL];omega,r5⟩
   rw[aaF (aaG hb hD)]
   exact s5 _ _ (s2 _ _ hb)
  ·exact⟨xs.length-(i+1),by omega,rfl,hlt,s2.trans s4,l,s4 _ _ h2,by omega,r4⟩
 ·have e:i=xs.length:=by omega
  subst e
  exact .inl ⟨show xs.length=(Tx xs).cps.size by rw[hz],hd D H2 l hR hD s2 h2⟩
end
section
variable{X:Cx}
theorem aqH{prog:Program}{w:World}{A:Around}{its:Array Value}{bs:List Bool}(r:Vals (bs.map V.bl) its.toList):TruthOf prog w A (fun i v=>its[i]? =some v) (fun i=>bs.getD i false):=by
 intro i v s Q E hv hq
 have hv':its.toList[i]? =some v:=by rw[cD];exact hv
 have hi:i<bs.length:=by
  have h1:=r.length
  rw[aU] at h1
  rcases cV i its.toList.length with z | z
  ·omega
  ·rw[dJ z] at hv';cases hv'
 obtain⟨u,hu,ru⟩:=r.get (i:=i) (x:=V.bl bs[i]) (by rw[bA,bS hi];rfl)
 rw[hv'] at hu
 cases hu
 cases ru
 have e:bs.getD i false=bs[i]:=by simp[List.getD,bS hi]
 have hq:Q (bs.getD i false) s:=hq
 rw[e] at hq
 exact eK hq
theorem axL(bs:List Bool):(List.range bs.length).all (fun i=>bs.getD i false)=bs.all id:=by
 rw[cG,bZ,bZ]
 refine⟨fun h b hb=>?_,fun h i hi=>?_⟩
 ·obtain⟨i,hi,e⟩:=List.getElem_of_mem hb
  have:=h i (cT.mpr hi)
  rw[show bs.getD i false=bs[i] by simp[List.getD,bS hi],e] at this
  exact this
 ·have hi:=cT.mp hi
  rw[show bs.getD i false=bs[i] by simp[List.getD,bS hi]]
  exact h _ (List.getElem_mem hi)
theorem aQF(hc:X.calm=true:=by rfl):Cl1 X (.builtin "all") (fun xs H Q=>∃(p:Addr) (bs:List Bool),xs=[.ref p]/\SqL X.K H p (bs.map V.bl)/\Q (.bl (bs.all id)) H):=by
 refine⟨fun pins s σ H xs us Q I r h=>?_⟩
 obtain⟨p,bs,rfl,hq,q⟩:=h
 obtain⟨u,rfl,r1⟩:=acE r
 cases r1
 obtain⟨its,rv,pl,hz⟩:=I.list hq
 have hne:p≠s.heap.objs.size:=by
  obtain⟨o,ho,_⟩:=pl.isList
  exact aX (aV ho)
 refine call_all_walk (wpAny_pyIter_list pl.isList ⟨s.heap.objs.size,[s.heap.objs.size,p],[s.heap.objs.size],its.toArray.size,(fun i v=>its.toArray[i]? =some v),(fun i h=>h.IsListIter s.heap.objs.size p i/\h.IsList p its.toArray),(fun i=>bs.getD i false),rfl,Walks.list (prog:=X.prog) (w:=X.w) (A:=X.A.in1) (I.ok.hd hc) _ p hne its.toArray,⟨⟨_,bD _ rfl,rfl,rfl⟩,pl.isList.push _⟩,aqH (by simpa using rv),fun h' tk hk=>?_⟩)
 have hl:=rv.length
 rw[aU] at hl
 have e:its.toArray.size=bs.length:=by rw[bJ];omega
 rw[e,axL]
 exact⟨.bl _,H,I.kept fun b o eb=>hk b o (by simpa using aX (aV eb)) (aW _ eb),rfl,q⟩
end
end L2
namespace L2
open PySem PySem.Spec PyProof.Rows PySem.Builtin PySem.Builtin.Str
noncomputable def spl(c:Nat):List Nat->List (List Nat)
 |[]=>[[]]
 |x::r=>if x=c then []::spl c r else match spl c r with
  |h::t=>(x::h)::t
  |[]=>[[x]]
noncomputable def aaW(c:Nat):List (List Nat)->List Nat
 |[]=>[]
 |[p]=>p
 |p::r=>p++c::aaW c r
theorem aEV(c:Nat):∀l,spl c l≠[]
 |[]=>by simp[spl]
 |x::r=>by
  unfold spl
  split
  ·simp
  ·split<;>simp
theorem ac8(c:Nat):∀(p:List Nat),c∉p->spl c p=[p]
 |[],_=>rfl
 |x::r,h=>by
  have h1:¬x=c:=fun e=>h (by simp[e])
  have h2:=ac8 c r fun e=>h (by simp[e])
  unfold spl
  rw[if_neg h1,h2]
theorem ajT(c:Nat):∀(p r:List Nat),c∉p->spl c (p++c::r)=p::spl c r
 |[],r,_=>by
  show spl c (c::r)=_
  unfold spl
  rw[if_pos rfl]
  cases r<;>rfl
 |x::q,r,h=>by
  have h1:¬x=c:=fun e=>h (by simp[e])
  have h2:=ajT c q r fun e=>h (by simp[e])
  show spl c (x::(q++c::r))=_
  rw[spl,if_neg h1,h2]
theorem aeH(c:Nat):∀(ps:List (List Nat)),ps≠[]->(∀p∈ps,c∉p)->spl c (aaW c ps)=ps
 |[],h,_=>absurd rfl h
 |[p],_,h=>ac8 c p (h p (by simp))
 |p::q::r,_,h=>by
  show spl c (p++c::aaW c (q::r))=_
  rw[ajT c p _ (h p (by simp)),aeH c (q::r) (by simp) fun z hz=>h z (bM _ hz)]
theorem aoS(c:Nat):∀ps:List Str,(Str.join (Tx [c]) ps).cps.toList=aaW c (ps.map (·.cps.toList))
 |[]=>rfl
 |[p]=>rfl
 |p::q::r=>by
  have ih:=aoS c (q::r)
  show (p++Tx [c]++Str.join (Tx [c]) (q::r)).cps.toList=p.cps.toList++c::aaW c ((q::r).map (·.cps.toList))
  rw[←ih]
  show ((p.cps++ #[c])++(Str.join (Tx [c]) (q::r)).cps).toList=_
  simp
theorem aAD(x y:Str)(h:Txt.split x y=[]):False:=by
 unfold Txt.split at h
 split at h
 ·cases h
 ·split at h
  ·cases h
  ·have e:=congrArg List.length h
   rw[length_partsBetween] at e
   simp at e
theorem aAJ(l:List Nat)(c:Nat):(Txt.split (Tx l) (Tx [c])).map (·.cps.toList)=spl c l:=by
 have h1:=StrLaws.join_split (Tx l) (Tx [c])
 have h2:=StrLaws.split_free (Tx l) c
 have h3:=aoS c (Txt.split (Tx l) (Tx [c]))
 rw[h1] at h3
 have e:aaW c ((Txt.split (Tx l) (Tx [c])).map (·.cps.toList))=l:=by rw[←h3]
 rw[←aeH c ((Txt.split (Tx l) (Tx [c])).map (·.cps.toList)) (fun z=>aAD _ _ (List.map_eq_nil_iff.mp z)) ?_,e]
 intro p hp
 obtain⟨z,hz,rfl⟩:=bL.mp hp
 exact h2 z hz
theorem axR(l:List Nat)(c:Nat):Txt.split (Tx l) (Tx [c])=(spl c l).map Tx:=by
 rw[←aAJ,cQ]
 have:∀ps:List Str,ps=ps.map ((fun w:List Nat=>Tx w) ∘ fun x=>x.cps.toList):=fun ps=>by
  induction ps with
  |nil=>rfl
  |cons a r ih=>rw[bG,←ih];simp
 exact this _
theorem amT:∀l:List (Str×Tok),Vals (l.map fun p=>V.str p.1) (strValues l)
 |[]=>.nil
 |p::r=>.cons ⟨p.2,rfl⟩ (amT r)
section
variable{prog:Program}{w:World}{A:Around}{E:Value->Shared->Prop}{s:Shared}{x y:Str}{t u:Tok}{Q:Value->Shared->Prop}
theorem asN(hy:(y.length==0)=false)(hsz:x.length+2<=sizeLine)
  (h:∀l k,l.map (·.1)=Txt.split x y->Q (.ref s.heap.objs.size) {s with heap:=s.heap.push {cls:=.type "list",data:=.seq (strValues l).toArray},toks:=k}):
  wpAny (model prog w) A (call (.builtin "str.split") [.str x t,.str y u]) Q E s:=by
 have hn:(partsBetween x (occurrences x y 0 x.length (x.length+1)) y.length).length<=sizeLine:=by
  have e1:=StrLaws.occ_length_le x y 0 x.length (x.length+1)
  rw[length_partsBetween];omega
 cases h1:(decide (x.length<y.length)||decide (strKind x<strKind y))
 ·cases hf:(occurrences x y 0 x.length (x.length+1)).isEmpty
  ·refine call_meets F.slot_str_split (typeIs_str _ _ _) F.entry_str_split (F.args_str_split_2 _ _) (meets_str_split_sep x y t u h1 hy hf (by omega) hn) ?_
   show wants Q E _ {s with toks:=_,heap:=s.heap.push {cls:=.type "list",data:=.seq (strsFrom s.toks (partsBetween x (occurrences x y 0 x.length (x.length+1)) y.length)).toArray} }
   rw[strsFrom_eq]
   exact h (numbered s.toks _) _ ((numbered_texts _ _).trans ((if_neg (ne_true_of_eq_false h1)).trans (if_neg (ne_true_of_eq_false hf))).symm)
  ·exact call_meets F.slot_str_split (typeIs_str _ _ _) F.entry_str_split (F.args_str_split_2 _ _) (meets_str_split_not_found x y t u h1 hy hf)
    (h [(x,t)] s.toks ((if_neg (ne_true_of_eq_false h1)).trans (if_pos hf)).symm)
 ·exact call_meets F.slot_str_split (typeIs_str _ _ _) F.entry_str_split (F.args_str_split_2 _ _) (meets_str_split_cannot_occur x y t u h1)
   (h [(x,t)] s.toks (if_pos h1).symm)
end
theorem agW(c:Nat):∀l,(spl c l).length<=l.length+1
 |[]=>by simp[spl]
 |x::r=>by
  have ih:=agW c r
  unfold spl
  split
  ·simp;omega
  ·split
   ·rename_i e;rw[e] at ih;simp at ih ⊢;omega
   ·simp
section
variable{X:Cx}
noncomputable def axX:V->List V->Hp->VK->Prop:=fun x vs H Q=>∃(l:List Nat) (c:Nat),x=.str (Tx l)/\vs=[.str (Tx [c])]/\l.length+2<=sizeLine/\∀p,H p=none->Q (.ref p) (upd H p (.lst ((spl c l).map fun q=>V.str (Tx q))))
theorem ax0:MtR X "str.split" axX:=by
 intro pins s σ H x xs v us Q I rx rv h
 obtain⟨l,c,rfl,rfl,hz,q⟩:=h
 obtain⟨u,rfl,t',rfl⟩:=acE rv
 obtain⟨t,rfl⟩:=rx
 refine asN (by rfl) (by rw[abE];exact hz) fun ps k e=>?_
 have e2:ps.map (fun p=>V.str p.1)=(spl c l).map fun q=>V.str (Tx q):=by
  have:=congrArg (List.map V.str) e
  rw[axR,cQ,cQ] at this
  exact this
 have hl:((spl c l).map fun q=>V.str (Tx q)).length<=sizeLine:=by
  have:=agW c l
  rw[aU]
  omega
 refine⟨.ref s.heap.objs.size,upd H s.heap.objs.size (.lst ((spl c l).map fun q=>V.str (Tx q))),I.laid (t':=k) (fun b u e=>aW _ e) (aS _) ?_,rfl,q _ (I.hok.fresh (aS _))⟩
 exact⟨hl,strValues ps,0,by rw[←e2];exact amT ps,bD _ rfl⟩
theorem axK{o e:Expr}{to te:TE}{apos cpos:Pos}(ho:E X o to)(he:E X e te)(hbase:attributeBase o "split" X.env (eval o X.env)=eval o X.env:=by rfl)
  (hfew:((backTo cpos (starEach [e] X.env)).all (fun x=> !x.1)&&(backToKw cpos (keywordEach [] X.env)).all (fun x=>x.1.isSome)&&decide (([e]:List Expr).length+([]:List Keyword).length+(if ([]:List Keyword).isEmpty then 0 else 1)<30))=true:=by rfl)
  (hline:(apos.endLine==cpos.line)=true:=by rfl) (hs:starEach [e] X.env=(false,eval e X.env)::starEach [] X.env:=by rfl) (hplain:(backTo cpos (starEach [] X.env)).any (·.1)=false:=by rfl):
  E X (.Call (.Attribute o "split" apos) [e] [] cpos) (tBM X.K "str" axX to (adX te akI)):=
 ⟨arR PySem.F.plainAttrs_str PySem.F.slot_str_split PySem.F.type_str_split ax0 ho.h (acY he.h aeG hs) hbase hfew hline hs hplain⟩
theorem oInX:Op2 X (compareOp .In) (fun x y H Q=>∃(c:Nat) (l:List Nat),x=.str (Tx [c])/\y=.str (Tx l)/\Q (.bl (decide (c∈l))) H):=by
 refine⟨fun pins s σ H x y v u Q I rx ry h=>?_⟩
 obtain⟨c,l,rfl,rfl,q⟩:=h
 refine axO pins s σ H _ _ v u Q I rx ry ⟨_,_,rfl,rfl,?_⟩
 rw[show (!(occurrences (Tx l) (Tx [c]) 0 (Tx l).length 1).isEmpty)=decide (c∈(Tx l).cps.toList) from StrLaws.found_one (Tx l) c]
 exact q
theorem az9:Cl1 X (.builtin "len") (fun xs H Q=>∃l:List Nat,xs=[.str (Tx l)]/\l.length<=sizeLine/\Q (.int l.length) H):=by
 refine⟨fun pins s σ H xs us Q I r h=>?_⟩
 obtain⟨l,rfl,hz,q⟩:=h
 refine aoL pins s σ H _ us Q I r ⟨Tx l,rfl,by rw[abE];exact hz,?_⟩
 rw[abE]
 exact q
theorem am2:Op2 X (binaryOp .Add) (fun x y H Q=>∃a b:List Nat,x=.str (Tx a)/\y=.str (Tx b)/\a.length+b.length<=sizeLine/\Q (.str (Tx (a++b))) H):=by
 refine⟨fun pins s σ H x y v u Q I rx ry h=>?_⟩
 obtain⟨a,b,rfl,rfl,hz,q⟩:=h
 refine asY pins s σ H _ _ v u Q I rx ry ⟨_,_,rfl,rfl,by rw[abE,abE];exact hz,?_⟩
 have e:Tx a++Tx b=Tx (a++b):=by show Str.mk _=Str.mk _;simp
 rw[e]
 exact q
theorem xX:Ixs X (fun x y H Q=>∃(l:List Nat) (i:Int) (c:Nat),x=.str (Tx l)/\y=.int i/\l.length<=sizeLine/\atI l i=some c/\Q (.str (Tx [c])) H):=by
 refine⟨fun value slice pins s σ H x y v u Q I rx ry h hs=>?_⟩
 obtain⟨l,i,c,rfl,rfl,hz,ha,q⟩:=h
 exact aD1 value slice pins s σ H _ _ v u Q I rx ry ⟨Tx l,i,c,rfl,rfl,by rw[abE];exact hz,by simpa using ha,q⟩ hs
end
end L2
namespace L2
open PySem PySem.Spec PyProof.Rows PySem.Builtin PySem.Builtin.Str
section
variable{X:Cx}{pins:List (Addr×Obj)}{σ:St}{H:Hp}{s:Shared}{h':Heap}
theorem Inv.turnT{ch:List Addr}{T:Addr}{o:HO}{t':Nat}(I:Inv X pins σ H s)(k:∀b u,b∉ch->s.heap.get? b=some u->h'.get? b=some u)(hch:∀b∈ch,adF X pins H b)(hT:s.heap.objs.size<=T)(new:ObjOk X.prog X.w (upd H T o) h' T o):
  Inv X pins σ (upd H T o) {s with heap:=h',toks:=t'}:=by
 have hn:=I.hok.fresh hT
 have nit:∀b u,H b=some u->b∉ch:=fun b u e z=>by rw[(hch b z).1] at e;cases e
 refine I.step (g':=s.gens) (d':=s.drawn) (ch:=ch) (fun b hb=>?_) (fun b u _ _ hc e _=>k b u hc e) (fun b u _ _ hc e _=>⟨u.slots,k b u hc e⟩) (fun b u _ e n=>?_)
  (fun b u hc e=>⟨u,k b u hc e⟩) (fun b xs e=>by rw[aaF (aaG e hn)];exact e) (fun b u xs e=>by rw[aaF (aaG e hn)];exact e) (fun b ps e=>⟨#[],by rw[aaF (aaG e hn),e];simp⟩) (fun m hm=>?_) (fun b u e=>?_) I.bare
 ·obtain⟨f0,f1,f2,f3,f4,f5⟩:=hch b hb
  exact⟨f3,f1,f4,f5⟩
 ·rw[aaF (aX (a9 (aV e) hT))]
  exact n
 ·obtain⟨ob,es,ep,ho,r⟩:=hm
  exact⟨ob,es,ep,k _ ob (fun z=>(hch _ z).2.1 rfl) ho,r⟩
 ·by_cases hb:b=T
  ·subst hb;rw[aaA] at e;cases e;exact new
  ·rw[aaF hb] at e
   refine (I.hok b u e).stay (fun c v hc q=>k c v ?_ q) (fun c q=>by rw[aaF (aaG q hn)];exact q) fun c xs q=>by rw[aaF (aaG q hn)];exact q
   rcases hc with z | z
   ·rw[z];exact nit b u e
   ·exact nit c _ z
theorem Inv.turnN{ch:List Addr}{t':Nat}(I:Inv X pins σ H s)(k:∀b u,b∉ch->s.heap.get? b=some u->h'.get? b=some u)(hch:∀b∈ch,adF X pins H b):Inv X pins σ H {s with heap:=h',toks:=t'}:=by
 have nit:∀b u,H b=some u->b∉ch:=fun b u e z=>by rw[(hch b z).1] at e;cases e
 refine I.step (g':=s.gens) (d':=s.drawn) (ch:=ch) (fun b hb=>?_) (fun b u _ _ hc e _=>k b u hc e) (fun b u _ _ hc e _=>⟨u.slots,k b u hc e⟩) (fun b u _ e n=>n)
  (fun b u hc e=>⟨u,k b u hc e⟩) (fun b xs e=>e) (fun b u xs e=>e) (fun b ps e=>⟨#[],by rw[e];simp⟩) (fun m hm=>?_) (fun b u e=>?_) I.bare
 ·obtain⟨f0,f1,f2,f3,f4,f5⟩:=hch b hb
  exact⟨f3,f1,f4,f5⟩
 ·obtain⟨ob,es,ep,ho,r⟩:=hm
  exact⟨ob,es,ep,k _ ob (fun z=>(hch _ z).2.1 rfl) ho,r⟩
 ·refine (I.hok b u e).stay (fun c v hc q=>k c v ?_ q) (fun c q=>q) fun c xs q=>q
  rcases hc with z | z
  ·rw[z];exact nit b u e
  ·exact nit c _ z
end
noncomputable def Ite(K:FG)(a:Addr):It:=
 ⟨fun i H=>∃xs x,SqL K H a xs/\xs[i]? =some x,fun i H v H'=>∃T,v=.ref T/\H T=none/\∀xs,SqL K H a xs->∃x,xs[i]? =some x/\H'=upd H T (.tup [.int i,x]),fun i H=>∃xs,SqL K H a xs/\xs.length=i⟩
theorem awU{P:Program}{w:World}{K:FG}{es:List Expr}{kk:Nat}{pos:Pos}(a e it:Addr)(hne:e≠it):Turn P w K (.Tuple es kk pos) (Ite K a) [e,it] e (fun i h=>(∃old,IsEnum h e it i old)/\h.IsListIter it a i) where
 mem:=by simp
 obj:=fun i h st b hb=>by
  obtain⟨⟨old,he⟩,o,e1,c,d⟩:=st
  rcases aY.mp hb with z | z
  ·subst z
   exact⟨_,he,fun v q=>by
    have q':Data.fields _=Data.cell v:=q
    cases q'⟩
  ·have z:b=it:=by simpa using z
   subst z
   exact⟨o,e1,fun v q=>by rw[d] at q;cases q⟩
 keep:=fun i h h' st k=>by
  obtain⟨⟨old,he⟩,hit⟩:=st
  exact⟨⟨old,k e (by simp) _ he⟩,hit.at fun o q=>k it (by simp) o q⟩
 item:=by
  intro X hP hw hK hc i pins s σ H E I hf st hg
  subst hP hw hK
  obtain⟨xs,x,hq,hx⟩:=hg
  obtain⟨⟨old,he⟩,hit⟩:=st
  obtain⟨its,rv,p,hz⟩:=I.list hq
  obtain⟨u,hu,ru⟩:=rv.get hx
  refine wpAny_pyNext_enum_item he hit p.isList (x:=u) (by simpa using hu) hne fun h1 ho hit1 hT hsz hk=>?_
  refine⟨_,rfl,wpAny_letOwnedTupleGo_enum ho fun h2 he2 sb=>?_⟩
  have ele:e<s.heap.objs.size:=aV he
  have k2:∀b ob,b∉[e,it]->s.heap.get? b=some ob->h2.get? b=some ob:=fun b ob hb q=>by
   have n1:b≠e:=fun z=>hb (by simp[z])
   have n2:b≠it:=fun z=>hb (by simp[z])
   exact (sb.2 b n1).trans (hk b ob n1 n2 q)
  have hTn:s.heap.objs.size≠e:=Nat.ne_of_gt ele
  have hT2:h2.get? s.heap.objs.size=some {cls:=.type "tuple",data:=.seq #[.int i s.toks,u]}:=(sb.2 _ hTn).trans hT
  have hn:=I.hok.fresh (aS s.heap.objs.size)
  have I2:Inv X pins σ (upd H s.heap.objs.size (.tup [.int i,x])) {s with heap:=h2,toks:=s.toks+1}:=I.turnT k2 hf (aS _) ⟨by show 2<=sizeLine;decide,[.int i s.toks,u],.cons ⟨_,rfl⟩ (.cons ru .nil),⟨_,hT2,rfl,_,rfl⟩⟩
  refine⟨.ref s.heap.objs.size,_,I2,rfl,⟨s.heap.objs.size,rfl,hn,fun ys hy=>⟨x,by rw[I.list_inj hy hq];exact hx,rfl⟩⟩,⟨⟨_,by simpa using he2⟩,hit1.at fun o q=>(sb.2 it (Ne.symm hne)).trans q⟩,fun b hb=>?_⟩
  have hblt:b<s.heap.objs.size:=by
   rcases aY.mp hb with z | z
   ·rw[z];exact ele
   ·have z:b=it:=by simpa using z
    obtain⟨o,q,_⟩:=hit
    rw[z];exact aV q
  rw[aaF (aX hblt)]
  exact (hf b hb).1
 done:=by
  intro X hP hw hK hc i pins s σ H E I hf st hg
  subst hP hw hK
  obtain⟨xs,hq,hx⟩:=hg
  obtain⟨⟨old,he⟩,hit⟩:=st
  obtain⟨its,rv,p,hz⟩:=I.list hq
  have hl:=rv.length
  refine wpAny_pyNext_enum_end (I.ok.hd hc) he hit p.isList (by simp;omega) fun h' hk=>⟨rfl,?_⟩
  exact I.turnN (ch:=[e,it]) (t':=s.toks) (fun b ob hb q=>hk b ob (fun z=>hb (by simp[z])) q) hf
 self:=fun _ _ _ _ _ st h=>by
  obtain⟨⟨old,he⟩,_⟩:=st
  exact wpAny_pyIter_enum he h
section
variable{X:Cx}{es:List Expr}{kk:Nat}{tpos:Pos}
noncomputable def iEnu(K:FG)(tl:TE):TI:=fun σ H R=>tl σ H fun x H1=>∃a,x=.ref a/\(∃xs,SqL K H1 a xs)/\R (Ite K a) H1
theorem awC:bootBuiltins "enumerate"=some (.type "enumerate"):=by decide +kernel
theorem iE{l:Expr}{tl:TE}{p pos:Pos}(hm:X.mg "enumerate"=none)(hl:E X l tl)(hg:Gl X "enumerate":=by rfl)(hs:starEach [l] X.env=[(false,eval l X.env)]:=by rfl):
  Il X (.Tuple es kk tpos) (.Call (.Name "enumerate" p) [l] [] pos) (iEnu X.K tl):=by
 refine⟨fun pins s σ H R I h=>?_⟩
 have hA:PA X [l] (adX tl akI):=acY hl.h aeG hs
 refine Call_ (ahA I hg hm awC (PyProof.Rows.callWith_type1 (thn (hA pos pins s σ H (fun vs H1=>match vs with | [x]=>∃a,x=.ref a/\(∃xs,SqL X.K H1 a xs)/\R (Ite X.K a) H1 | _=>False) I ?_) fun us s1 ⟨vs,H1,I1,r1,q1⟩=>?_) hs rfl))
 ·exact h
 match vs,q1,r1 with
 |[x],q1,r1=>?_
 obtain⟨a,rfl,⟨xs,hq⟩,q⟩:=q1
 obtain⟨u,rfl,rx⟩:=acE r1
 cases rx
 obtain⟨its,rv,pl,hz⟩:=I1.list hq
 refine call_enumerate_list pl.isList fun h' he hit hsz hk=>?_
 refine wpAny_pyIter_enum he ?_
 have I2:Inv X pins σ H1 {s1 with heap:=h'}:=I1.kept (t':=s1.toks) hk
 have hne:s1.heap.objs.size+1≠s1.heap.objs.size:=Nat.ne_of_gt (cY _)
 refine⟨s1.heap.objs.size+1,[s1.heap.objs.size+1,s1.heap.objs.size],_,_,H1,rfl,I2,awU a _ _ hne,⟨⟨_,he⟩,hit⟩,fun b hb=>?_,q⟩
 have hb2:s1.heap.objs.size<=b:=by
  rcases aY.mp hb with z | z
  ·rw[z];exact Nat.le_succ _
  ·have z:b=s1.heap.objs.size:=by simpa using z
   rw[z];exact aS _
 exact I1.fpOk hb2 (I1.hok.fresh hb2)
end
theorem akB{K:FG}{a:Addr}{xs:List V}{g:TG}{tb:TS}{D:Ends}{σ:St}{H:Hp}(Pv:Nat->St->Hp->Prop)(h0:Pv 0 σ H)(hl:∀i σ H,i<=xs.length->Pv i σ H->SqL K H a xs)
  (hs:∀i x σ H T,xs[i]? =some x->Pv i σ H->H T=none->g (.ref T) σ (upd H T (.tup [.int i,x])) fun σ2 H2=>tb {D with nx:=Pv (i+1),ct:=Pv (i+1),bk:=D.nx} σ2 H2) (hd:∀σ H,Pv xs.length σ H->D.nx σ H):
  ∃W:Nat->Nat->St->Hp->Prop,(∃m,W 0 m σ H)/\∀i m σ H,W i m σ H->
   ((Ite K a).stop i H/\D.nx σ H)∨((Ite K a).go i H/\∃N:St->Hp->Prop,(∀σ' H',N σ' H'->∃m',m'<m/\W (i+1) m' σ' H')/\∀x H',(Ite K a).yld i H x H'->g x σ H' fun σ2 H2=>tb {D with nx:=N,ct:=N,bk:=D.nx} σ2 H2):=by
 refine⟨fun i m σ H=>m=xs.length-i/\i<=xs.length/\Pv i σ H,⟨xs.length,by simp,bK _,h0⟩,?_⟩
 rintro i m σ H ⟨rfl,hi,p⟩
 have hq:=hl i σ H hi p
 by_cases hlt:i<xs.length
 ·refine .inr ⟨⟨xs,xs[i],hq,by simp[hlt]⟩,Pv (i+1),fun σ' H' p'=>⟨xs.length-(i+1),by omega,rfl,hlt,p'⟩,fun x H' y=>?_⟩
  obtain⟨T,rfl,hT,hy⟩:=y
  obtain⟨x,hx,rfl⟩:=hy xs hq
  exact hs i x σ H T hx p hT
 ·have e:i=xs.length:=by omega
  subst e
  exact .inl ⟨⟨xs,hq,rfl⟩,hd σ H p⟩
noncomputable def num(m:Nat):List Nat:=(Nat.toDigits 10 m).map Char.toNat
section
variable{X:Cx}
theorem aJM:Cl1 X (.type "int") (fun xs H Q=>∃l:List Nat,xs=[.str (Tx l)]/\PySem.NumText.AllDigits l/\l≠[]/\l.length<=640/\Q (.int ((PySem.NumText.digitsVal l:Nat):Int)) H):=by
 refine⟨fun pins s σ H xs us Q I r h=>?_⟩
 obtain⟨l,rfl,h1,h2,h3,q⟩:=h
 obtain⟨u,rfl,t,rfl⟩:=acE r
 refine PySem.W.KIN.call_text (PySem.intText_digits (x:=Tx l) (by simpa using h1) (by simpa using h2) (by rw[abE];omega)) (by rw[abE];exact h3) ?_
 exact⟨.int _,H,I.tok _,⟨_,rfl⟩,by simpa using q⟩
theorem ah7:Cl1 X (.type "str") (fun xs H Q=>∃n:Nat,xs=[.int n]/\n<10^500/\Q (.str (Tx (num n))) H):=by
 refine⟨fun pins s σ H xs us Q I r h=>?_⟩
 obtain⟨n,rfl,hn,q⟩:=h
 refine aoU pins s σ H _ us Q I r ⟨(n:Int),rfl,?_,?_⟩
 ·by_cases h0:n=0
  ·subst h0;decide
  ·have:n<2^1900:=a9 hn (by decide +kernel)
   have:=(Nat.log2_lt h0).mpr this
   show (n:Int).natAbs.log2<1920
   simp only[Int.natAbs_natCast]
   omega
 ·have e:PySem.Str.ofString (toString (n:Int))=Tx (num n):=by
   rw[←aDI (PySem.Str.ofString (toString (n:Int)))]
   exact congrArg (fun z=>Tx z) (PySem.W.KIN.signs_num n)
  show Q (.str (PySem.Str.ofString (toString (n:Int)))) H
  rw[e]
  exact q
end
end L2
namespace L2
open PySem PySem.Spec PyProof.Rows PySem.Builtin PySem.Builtin.Str
theorem ifT{b:Bool}{A B:Prop}(e:b=true)(h:A):if b=true then A else B:=by rw[if_pos e];exact h
theorem ifF{b:Bool}{A B:Prop}(e:b=false)(h:B):if b=true then A else B:=by rw[if_neg (by rw[e];exact bB)];exact h
theorem if2{b:Bool}{A B:Prop}(h1:b=true->A)(h2:b=false->B):if b=true then A else B:=by
 cases b
 ·exact ifF rfl (h2 rfl)
 ·exact ifT rfl (h1 rfl)
theorem ay2(a b:List Nat):decide (V.str (Tx a)=V.str (Tx b))=decide (a=b):=decide_eq_decide.mpr ⟨fun h=>Tx_inj.mp (V.str.inj h),fun h=>by rw[h]⟩
section
variable{X:Cx}{pos:Pos}
theorem eSx{z:Str}{j}(l:List Nat)(h:z=Tx l:=by decide +kernel):E X (.Constant (.str z) j pos) (tC (.str (Tx l))):=by
 subst h
 exact⟨az3⟩
end
noncomputable def agR(c:Nat):Bool:=decide (48<=c)&&decide (c<=57)
noncomputable def aEJ:List Nat:=[48,49,50,51,52,53,54,55,56,57]
theorem ay4(c:Nat):decide (c∈aEJ)=agR c:=by
 unfold aEJ agR
 rw[cG,eE,bF,eE,eE]
 simp
 omega
noncomputable def ar3(l:List Nat):Bool:= !decide (l=[])&&l.all agR
noncomputable def isW(l:List Nat):Bool:=ar3 l&&(decide (l=[48])|| !decide (l.headD 0=48))
noncomputable def dv(l:List Nat):Int:=((PySem.NumText.digitsVal l:Nat):Int)
noncomputable def aaX(lo hi:Int)(l:List Nat):Option Int:=if isW l=true then (if lo<=dv l/\dv l<=hi then some (dv l) else none) else none
noncomputable def oV:Option Int->V
 |none=>.non
 |some n=>.int n
noncomputable def aiH(es:List (Option Int)):Option (Int×Int):=match es with
 |[some a]=>some (a,a)
 |[some a,some b]=>if b<a then none else some (a,b)
 |_=>none
noncomputable def aaZ(lo hi:Int)(l:List Nat):Option (Int×Int):=if l=[42] then some (lo,hi) else aiH ((spl 45 l).map (aaX lo hi))
@[irreducible] noncomputable def acU(a b s:Int):List Int:=(List.range (Builtin.Range.rangeSize a (b+1) s).toNat).map fun i:Nat=>a+(i:Int)*s
theorem ajL(a b s:Int):acU a b s=(List.range (Builtin.Range.rangeSize a (b+1) s).toNat).map fun i:Nat=>a+(i:Int)*s:=by rw[acU]
noncomputable def ai4(a b s:Int):Int:=aaO (acU a b s)
noncomputable def abK(lo hi:Int)(r s:List Nat):Option Int:=
 match aaZ lo hi r,aaX 1 99 s with
 |some (a,b),some st=>some (ai4 a (if isW r=true then hi else b) st)
 |_,_=>none
noncomputable def aaI(lo hi:Int)(l:List Nat):Option Int:=
 match spl 47 l with
 |[r,s]=>abK lo hi r s
 |_=>match aaZ lo hi l with
  |some (a,b)=>some (ai4 a b 1)
  |none=>none
theorem as1{l:List Nat}(h:isW l=true):PySem.NumText.AllDigits l/\l≠[]:=by
 unfold isW ar3 at h
 rw[bF,bF] at h
 refine⟨fun c hc=>?_,fun e=>?_⟩
 ·have:=bZ.mp h.1.2 c hc
  unfold agR at this
  rw[bF] at this
  exact⟨eA this.1,eA this.2⟩
 ·rw[eC e] at h
  exact absurd h.1.1 (by decide)
theorem ajP{a b s:Int}(hs:0<s):Builtin.Range.rangeSize a (b+1) s=if a<=b then (b-a) / s+1 else 0:=by
 unfold Builtin.Range.rangeSize
 rw[if_pos hs]
 by_cases c:a<=b
 ·rw[if_pos c,if_pos (by omega),show b+1-a-1=b-a by omega]
 ·rw[if_neg c,if_neg (by omega)]
theorem apH{a b s z:Int}(hs:0<s):z∈acU a b s↔a<=z/\z<=b/\(z-a)%s=0:=by
 rw[ajL,bL,ajP hs]
 refine⟨fun ⟨i,hi,e⟩=>?_,fun ⟨h1,h2,h3⟩=>?_⟩
 ·subst e
  by_cases c:a<=b
  ·rw[if_pos c,cT] at hi
   have hq:(i:Int)<=(b-a) / s:=by
    have:0<=(b-a) / s:=dG (by omega) (by omega)
    omega
   have hm:(i:Int)*s<=(b-a) / s*s:=Int.mul_le_mul_of_nonneg_right hq (by omega)
   have hd:(b-a) / s*s<=b-a:=Int.ediv_mul_le _ (by omega)
   have h0:0<=(i:Int)*s:=Int.mul_nonneg (by omega) (by omega)
   refine⟨by omega,by omega,?_⟩
   rw[show a+(i:Int)*s-a=(i:Int)*s by omega]
   exact Int.mul_emod_left _ _
  ·rw[if_neg c,cT] at hi
   exact absurd hi (by simp)
 ·rw[if_pos (by omega)]
  have hd:s*((z-a) / s)+(z-a)%s=z-a:=Int.mul_ediv_add_emod _ _
  rw[h3,Int.add_zero] at hd
  have h0:0<=(z-a) / s:=dG (by omega) (by omega)
  have hle:(z-a) / s<=(b-a) / s:=Int.ediv_le_ediv hs (by omega)
  refine⟨((z-a) / s).toNat,cT.mpr (by omega),?_⟩
  rw[bU h0,Int.mul_comm]
  omega
theorem aoF{a b s:Int}(h0:0<=a)(h1:b<=1000)(hs:0<s):(Builtin.Range.rangeSize a (b+1) s).toNat<=1001/\Builtin.Range.rangeSize a (b+1) s=((Builtin.Range.rangeSize a (b+1) s).toNat:Int):=by
 have hz:=avJ (a:=a) (b:=b+1) hs
 refine⟨?_,by omega⟩
 rw[ajP hs]
 split
 ·have:(b-a) / s<=b-a:=Int.ediv_le_self _ (by omega)
  omega
 ·decide
theorem arS{a b s:Int}(h0:0<=a)(ha:a<=1000)(h1: -1<=b)(hb:b<=1000)(hs:0<s)(hs2:s<=1000):Builtin.Range.small a (b+1) s=true:=by
 have hl:=aoF h0 hb hs
 have hz:=avJ (a:=a) (b:=b+1) hs
 unfold Builtin.Range.small
 simp only[Builtin.Range.rangeFitsLong,bF,Bool.or_eq_true,eE,beq_iff_eq]
 refine⟨⟨⟨⟨?_,?_⟩,?_⟩,?_⟩,.inr ?_⟩
 ·exact⟨by omega,by omega⟩
 ·exact⟨by omega,by omega⟩
 ·exact⟨by omega,by omega⟩
 ·exact⟨by omega,by omega⟩
 ·rw[if_pos hs]
  simp only[bF,eE]
  exact⟨by omega,by omega⟩
end L2
namespace L2
open PySem PySem.Spec PyProof.Rows PySem.Builtin PySem.Builtin.Str
theorem aqD{lo hi a:Int}{l:List Nat}(h:aaX lo hi l=some a):lo<=a/\a<=hi:=by
 unfold aaX at h
 split at h
 ·split at h
  ·rename_i c
   have:=a8 h
   omega
  ·cases h
 ·cases h
theorem ajZ{lo hi a b:Int}{l:List Nat}(hle:lo<=hi)(h:aaZ lo hi l=some (a,b)):(lo<=a/\a<=hi)/\lo<=b/\b<=hi:=by
 unfold aaZ at h
 split at h
 ·cases h;omega
 ·have key:∀es:List (Option Int),(∀e∈es,∀x,e=some x->lo<=x/\x<=hi)->aiH es=some (a,b)->(lo<=a/\a<=hi)/\lo<=b/\b<=hi:=by
   intro es hb h
   match es,hb,h with
   |[some x],hb,h=>
    have h:some (x,x)=some (a,b):=h
    cases h
    have:=hb _ (by simp) a rfl
    exact⟨this,this⟩
   |[some x,some y],hb,h=>
    have h:(if y<x then none else some (x,y))=some (a,b):=h
    split at h
    ·cases h
    ·cases h
     exact⟨hb (some a) (by simp) a rfl,hb (some b) (by simp) b rfl⟩
   |[],_,h=>cases h
   |[none],_,h=>cases h
   |[none,y],_,h=>cases h
   |[some x,none],_,h=>cases h
   |x::y::u::r,_,h=>cases x<;>cases y<;>cases h
  refine key _ (fun e he x hx=>?_) h
  obtain⟨w,_,rfl⟩:=bL.mp he
  exact aqD hx
noncomputable def orM(ms:List Int):Int:=ms.foldl (fun a m=>Builtin.bitOr a m) 0
theorem aeI(ms:List Int)(m:Int):orM (ms++[m])=Builtin.bitOr (orM ms) m:=by unfold orM;rw[List.foldl_append];rfl
theorem ak3:∀(ms:List Int) (a:Int),0<=a->(∀m∈ms,0<=m)->0<=ms.foldl (fun a m=>Builtin.bitOr a m) a/\∀i,tb (ms.foldl (fun a m=>Builtin.bitOr a m) a) i=(tb a i||ms.any fun m=>tb m i)
 |[],a,h,_=>⟨h,fun i=>by simp⟩
 |m::ms,a,h,hm=>by
  have hp:=hm m (by simp)
  obtain⟨h1,h2⟩:=ak3 ms (Builtin.bitOr a m) (ahZ h hp) fun z hz=>hm z (by simp[hz])
  refine⟨h1,fun i=>?_⟩
  show tb (ms.foldl _ (Builtin.bitOr a m)) i=_
  rw[h2 i,amJ h hp,bN,Bool.or_assoc]
theorem ab9{ms:List Int}(h:∀m∈ms,0<=m):0<=orM ms:=(ak3 ms 0 (aZ 0) h).1
theorem ab1{ms:List Int}(h:∀m∈ms,0<=m)(i:Nat):tb (orM ms) i=ms.any fun m=>tb m i:=by
 have:=(ak3 ms 0 (aZ 0) h).2 i
 rw[aaT,c8] at this
 exact this
noncomputable def adE(lo hi:Int)(l:List Nat):List Int:=(spl 44 l).map fun w=>(aaI lo hi w).getD 0
noncomputable def avS(lo hi:Int)(l:List Nat):Prop:=(spl 44 l).length<=40/\∀w∈spl 44 l,(aaI lo hi w).isSome=true
theorem akL:∀n:Nat,n<100->isW (num n)=true/\dv (num n)=(n:Int)/\((num n).all fun c=>agR c)=true/\(num n).length<=2:=by decide +kernel
theorem abI{n c:Nat}(h:n<100)(hc:agR c=false):c∉num n:=fun hm=>by
 have:=bZ.mp (akL n h).2.2.1 c hm
 rw[hc] at this
 cases this
theorem aF0{n:Nat}(h:n<100):num n≠[42]:=fun e=>by
 have:=abI h (c:=42) (by decide)
 rw[e] at this
 exact this (by simp)
theorem aeU{n:Nat}{lo hi:Int}(h:n<100)(h1:lo<=n)(h2:(n:Int)<=hi):aaX lo hi (num n)=some (n:Int):=by
 obtain⟨a,b,_⟩:=akL n h
 unfold aaX
 rw[if_pos a,b,if_pos ⟨h1,h2⟩]
theorem au3{n:Nat}{lo hi:Int}(h:n<100)(h1:lo<=n)(h2:(n:Int)<=hi):aaZ lo hi (num n)=some ((n:Int),(n:Int)):=by
 unfold aaZ
 rw[if_neg (aF0 h),ac8 45 _ (abI h (by decide))]
 show aiH [aaX lo hi (num n)]=_
 rw[aeU h h1 h2]
 rfl
theorem aC0{n m:Nat}{lo hi:Int}(h:n<100)(h':m<100)(h1:lo<=n)(h2:n<=m)(h3:(m:Int)<=hi):aaZ lo hi (num n++45::num m)=some ((n:Int),(m:Int)):=by
 unfold aaZ
 rw[if_neg (fun e=>by (have:45∈num n++45::num m:=(by simp));rw[e] at this;simp at this),ajT 45 _ _ (abI h (by decide)),ac8 45 _ (abI h' (by decide))]
 show aiH [aaX lo hi (num n),aaX lo hi (num m)]=_
 rw[aeU h h1 (by omega),aeU h' (by omega) h3]
 show (if (m:Int)<n then none else some ((n:Int),(m:Int)))=_
 rw[if_neg (by omega)]
theorem ap0{lo hi:Int}:aaZ lo hi [42]=some (lo,hi):=by unfold aaZ;rw[if_pos rfl]
theorem akM{lo hi a b:Int}{r:List Nat}(hf:47∉r)(h:aaZ lo hi r=some (a,b)):aaI lo hi r=some (ai4 a b 1):=by
 unfold aaI
 rw[ac8 47 r hf,h]
theorem arD{lo hi a b:Int}{r:List Nat}{s:Nat}(hf:47∉r)(h:aaZ lo hi r=some (a,b))(hs:s<100)(hs1:1<=s):aaI lo hi (r++47::num s)=some (ai4 a (if isW r=true then hi else b) s):=by
 unfold aaI
 rw[ajT 47 r _ hf,ac8 47 _ (abI hs (by decide))]
 show abK lo hi r (num s)=_
 unfold abK
 rw[h,aeU hs (by omega) (by omega)]
end L2
namespace L2
open PySem PySem.Spec PyProof.Rows PySem.Builtin PySem.Builtin.Str
theorem aq1:∀{ws:List (List Nat)} {vs:List Value},Vals (ws.map fun q=>V.str (Tx q)) vs->StrsAre vs (ws.map Tx)
 |[],[],_=>.nil
 |[],_::_,h=>nomatch h
 |_::_,[],h=>nomatch h
 |w::r,v::vs,.cons h t=>by
  obtain⟨k,rfl⟩:=h
  exact .cons (Tx w) k (aq1 t)
theorem aB4(c:Nat)(ws:List (List Nat)):Txt.join (Tx [c]) (ws.map Tx)=Tx (aaW c ws):=by
 have e1:Txt.join (Tx [c]) (ws.map Tx)=Str.join (Tx [c]) (ws.map Tx):=StrLaws.glued_eq_join _ _
 have e2:=aoS c (ws.map Tx)
 rw[cQ] at e2
 have e3:ws.map ((fun x:Str=>x.cps.toList) ∘ Tx)=ws:=by
  have:∀l:List (List Nat),l.map ((fun x:Str=>x.cps.toList) ∘ Tx)=l:=fun l=>by
   induction l with
   |nil=>rfl
   |cons a r ih=>rw[bG,ih];simp
  exact this ws
 rw[e3] at e2
 rw[e1,←aDI (Str.join (Tx [c]) (ws.map Tx)),e2]
theorem amV(c:Nat):∀ws:List (List Nat),(ws.map (·.length)).sum+ws.length=(aaW c ws).length+(if ws=[] then 0 else 1)
 |[]=>rfl
 |[p]=>by simp[aaW]
 |p::q::r=>by
  have ih:=amV c (q::r)
  rw[if_neg (by simp)] at ih ⊢
  simp only[bG,List.sum_cons,bX,aaW,bC] at ih ⊢
  omega
section
variable{X:Cx}
noncomputable def aDY(K:FG):V->List V->Hp->VK->Prop:=fun x vs H Q=>∃(c:Nat) (p:Addr) (ws:List (List Nat)),x=.str (Tx [c])/\vs=[.ref p]/\SqL K H p (ws.map fun q=>V.str (Tx q))/\(aaW c ws).length<=1000000/\Q (.str (Tx (aaW c ws))) H
theorem aCJ:MtR X "str.join" (aDY X.K):=by
 intro pins s σ H x xs v us Q I rx rv h
 obtain⟨c,p,ws,rfl,rfl,hq,hz,q⟩:=h
 obtain⟨u,rfl,r1⟩:=acE rv
 cases r1
 obtain⟨t,rfl⟩:=rx
 obtain⟨its,rv2,pl,hz2⟩:=I.list hq
 have hj:=amV c ws
 have hw:((ws.map Tx).map (·.length)).sum+(ws.map Tx).length<=1048576:=by
  rw[cQ,aU]
  have e:ws.map ((fun x:Str=>x.length) ∘ Tx)=ws.map (·.length):=List.map_congr_left fun a _=>abE a
  rw[e]
  split at hj<;>omega
 refine join_listW pl.isList (ys:=ws.map Tx) (by simpa using aq1 rv2) (by rw[abE];show 1<=16;decide) hw fun t' k=>?_
 refine⟨.str (Tx (aaW c ws)),H,I.kept (t':=k) fun _ _ e=>e,⟨t',by rw[aB4]⟩,q⟩
theorem aDV{o e:Expr}{to te:TE}{apos cpos:Pos}(ho:E X o to)(he:E X e te)(hbase:attributeBase o "join" X.env (eval o X.env)=eval o X.env:=by rfl)
  (hfew:((backTo cpos (starEach [e] X.env)).all (fun x=> !x.1)&&(backToKw cpos (keywordEach [] X.env)).all (fun x=>x.1.isSome)&&decide (([e]:List Expr).length+([]:List Keyword).length+(if ([]:List Keyword).isEmpty then 0 else 1)<30))=true:=by rfl)
  (hline:(apos.endLine==cpos.line)=true:=by rfl) (hs:starEach [e] X.env=(false,eval e X.env)::starEach [] X.env:=by rfl) (hplain:(backTo cpos (starEach [] X.env)).any (·.1)=false:=by rfl):
  E X (.Call (.Attribute o "join" apos) [e] [] cpos) (tBM X.K "str" (aDY X.K) to (adX te akI)):=
 ⟨arR PySem.F.plainAttrs_str PySem.F.slot_str_join PySem.F.type_str_join aCJ ho.h (acY he.h aeG hs) hbase hfew hline hs hplain⟩
end
noncomputable def az6(J:It)(k:Nat)(js:List Nat)(g:TG)(σ:St)(tt:TT)(te:TE)(Q:VK)(H1:Hp):Prop:=∀D,H1 D=none->∃W:Nat->Nat->Hp->Prop,(∃m,W 0 m (upd H1 D (.lst [])))/\∀i m H2,W i m H2->
 (J.stop i H2/\Q (.ref D) H2)∨(J.go i H2/\∀v H3,J.yld i H2 v H3->∀τ:St,τ.length=k->g v (τ++aa3 js σ) H3 fun σ2 H3'=>(∃τ':St,τ'.length=k/\σ2=τ'++aa3 js σ)/\tt σ2 H3' fun b H4=>if b=true then
  te σ2 H4 fun y H5=>∃ys,H5 D=some (.lst ys)/\ys.length<sizeLine/\∃m',m'<m/\W (i+1) m' (upd H5 D (.lst (ys++[y])))
  else ∃m',m'<m/\W (i+1) m' H4)
noncomputable def azQ(wi:TI)(k:Nat)(js:List Nat)(g:TG)(tt:TT)(te:TE):TE:=fun σ H Q=>wi σ H fun J H1=>az6 J k js g σ tt te Q H1
section
variable{X:Cx}{elt iter tg:Expr}{xs:List Str}{y:Str}{py pos spos:Pos}{ifs:List Expr}{scope:Scope}{cl:List (Str×Addr)}{N':List Str}{js:List Nat}{tt:TT}{te:TE}{g:TG}{wi:TI}
theorem aqK{pins:List (Addr×Obj)}{σ:St}{H:Hp}{s s4:Shared}{fp:List Addr}{C:Addr}{m4:Str->Option Value}(hcl:Clos X scope cl)(hN:js.map (fun j=>X.N[j]?)=N'.map some)
  (hk:N'.all (fun y=>(X.env.kindOf y==some .cell)||(X.env.kindOf y==some .free))=true) (hf:N'.all (fun y=>scope.names.lookup y==some .free)=true)
  (I:Inv X pins σ H s) (hfp:∀b∈fp,adF X pins H b/\b<s.heap.objs.size) (hC:C=s.heap.objs.size) (ho:s4.os=s.os) (hg:s4.gens=s.gens) (hkeep:∀b o,s.heap.get? b=some o->s4.heap.get? b=some o) (hn:s4.heap.Ns C m4):
  Inv (aaN X (xs++N') scope cl C fp pins s H) [] (List.replicate xs.length none++aa3 js σ) H s4:=by
 have hne:∀b o,s.heap.get? b=some o->b≠C:=fun b o e=>by rw[hC];exact aX (aV e)
 refine⟨⟨I.ok.mod,hcl.kind,I.ok.glob,I.ok.blt,Nat.le_of_eq hC.symm,fun y z c h1 h2=>I.ok.inj y z c (hcl.sub y c h1) (hcl.sub z c h2),fun y hy=>hcl.has y (anH (fun z=>hcl.nocell _ (PySem.mem_of_lookup z) rfl) (by rw[←adB];exact hy)),fun y c h _=>(nomatch h),I.ok.hd,I.ok.frames,.inl rfl,fun b hb=>⟨?_,fun y c e=>(hfp b hb).1.2.2.2.2.1 y c (hcl.sub y c e)⟩,
  I.bs,bO I.ok.bsz I.sz,fun b o e hb=>?_,fun b hb hz=>?_,I.stack,I.stkFree⟩,ho,by rw[hg];exact I.bare,Un.kept hkeep,⟨m4,hn,fun i y v h1 h2 h3=>?_⟩,fun y c e=>?_,?_,fun y c e=>I.freeC y c (hcl.sub y c e),fun p hp=>?_,I.hok.kept hkeep,?_⟩
 ·rw[hC];exact aX (hfp b hb).2
 ·rcases (hfp b hb).1.2.2.2.1 with z | z
  ·exact I.ok.noex b o e z
  ·exact absurd (a9 (aV e) (bO I.ok.bsz z)) (b8 _)
 ·rcases aY.mp (I.stkSub b hz) with z | z
  ·exact (hfp b hb).1.2.1 z
  ·exact (hfp b hb).1.2.2.1 z
 ·by_cases hi:i<xs.length
  ·rw[List.getElem?_append_left (by rw[dD];exact hi),List.getElem?_replicate,if_pos hi] at h2
   exact nomatch h2
  ·obtain⟨j0,rfl⟩:∃j0,i=xs.length+j0:=⟨i-xs.length,by omega⟩
   have h1:N'[j0]? =some y:=by
    have h1:(xs++N')[xs.length+j0]? =some y:=h1
    rw[List.getElem?_append_right (Nat.le_add_right _ _),Nat.add_sub_cancel_left] at h1
    exact h1
   have h2:(aa3 js σ)[j0]? =some (some v):=by rw[List.getElem?_append_right (by rw[dD];exact Nat.le_add_right _ _),dD,Nat.add_sub_cancel_left] at h2;exact h2
   generalize j0=i at h1 h2
   have hy:y∈N':=bI h1
   have q:(js.map (fun j=>X.N[j]?))[i]? =some (some y):=by rw[hN,bA,h1];rfl
   rw[bA] at q
   cases ej:js[i]? with
   |none=>rw[ej] at q;cases q
   |some j=>
    rw[ej] at q
    have q:X.N[j]? =some y:=a8 q
    unfold aa3 at h2
    rw[bA,ej] at h2
    have h2:(σ[j]?).getD none=some v:=a8 h2
    have h2:σ[j]? =some (some v):=by
     cases e:σ[j]? with
     |none=>rw[e] at h2;cases h2
     |some o=>rw[e] at h2;exact congrArg some h2
    have kk:=bZ.mp hk y hy
    have kk:X.env.kindOf y=some .cell∨X.env.kindOf y=some .free:=by simpa using kk
    have ff:=bZ.mp hf y hy
    have ff:scope.names.lookup y=some .free:=by simpa using ff
    obtain⟨m,_,hl⟩:=I.loc
    obtain⟨u,r,l⟩:=hl j y v q h2 (by rcases kk with z | z;exact .inr (.inl z);exact .inr (.inr z))
    refine⟨u,r,.inr ⟨af5 ff,?_⟩⟩
    obtain⟨c,hc⟩:=hcl.has y ff
    rcases l with ⟨z,_⟩ | ⟨_,c',e',cell⟩
    ·rcases kk with k | k<;>(rw[k] at z;cases z)
    ·rw[hcl.sub y c hc] at e'
     cases e'
     exact⟨c,hc,cell.keeps hkeep⟩
 ·obtain⟨v,q⟩:=I.cell y c (hcl.sub y c e)
  exact⟨v,q.keeps hkeep⟩
 ·show H C=none
  rw[hC]
  exact I.hok.fresh (aS _)
 ·have hp:p∈X.pn++pins:=by
   have hp:p∈(X.pn++pins)++[]:=hp
   rwa [cI] at hp
  obtain⟨e,n,ne,nf,d⟩:=I.pin p hp
  refine⟨hkeep _ _ e,n,hne _ _ e,fun z=>?_,d⟩
  rcases aY.mp (I.stkSub p.1 z) with z | z
  ·exact ne z
  ·exact nf z
 ·show (List.replicate xs.length none++aa3 js σ).length=(xs++N').length
  rw[bC,bC,dD]
  have q:=congrArg List.length hN
  rw[aU,aU] at q
  unfold aa3
  rw[aU,q]
theorem axD{pins:List (Addr×Obj)}{σ σ':St}{H H':Hp}{s s':Shared}{fp:List Addr}{C:Addr}(I:Inv X pins σ H s)(hfp:∀b∈fp,adF X pins H b)(J:Inv (aaN X (xs++N') scope cl C fp pins s H) [] σ' H' s'):Inv X pins σ H' s':=
 I.call' (ch:=fp) J.os J.base J.hok J.bare fun b hb=>⟨(hfp b hb).2.2.2.1,(hfp b hb).2.1,(hfp b hb).2.2.2.2.1,(hfp b hb).2.2.2.2.2⟩
theorem asB{pins:List (Addr×Obj)}{σ:St}{H:Hp}{s:Shared}{Q:VK}{RR:Value->Addr->Result->Shared->Prop}{J:It}{fp:List Addr}{it:Addr}{tn:Nat->Heap->Prop}
  (hcl:Clos X scope cl) (hnd:(xs++N').Nodup) (hN:js.map (fun j=>X.N[j]?)=N'.map some)
  (hk:N'.all (fun y=>(X.env.kindOf y==some .cell)||(X.env.kindOf y==some .free))=true) (hf:N'.all (fun y=>scope.names.lookup y==some .free)=true) (hc:X.calm=true)
  (hg:∀(C:Addr) (ex:List Addr) (pins:List (Addr×Obj)) (s:Shared) (H:Hp),PG (aaN X (xs++N') scope cl C ex pins s H) tg g)
  (ht:∀(C:Addr) (ex:List Addr) (pins:List (Addr×Obj)) (s:Shared) (H:Hp),PF (aaN X (xs++N') scope cl C ex pins s H) ifs tt)
  (he:∀(C:Addr) (ex:List Addr) (pins:List (Addr×Obj)) (s:Shared) (H:Hp),PE (aaN X (xs++N') scope cl C ex pins s H) elt te)
  (I:Inv X pins σ H s) (T:Turn X.prog X.w X.K (tg) J fp it tn) (st:tn 0 s.heap) (hfp:∀b∈fp,adF X pins H b)
  (q:∀D,H D=none->∃W:Nat->Nat->Hp->Prop,(∃m,W 0 m (upd H D (.lst [])))/\∀i m H2,W i m H2->
   (J.stop i H2/\Q (.ref D) H2)∨(J.go i H2/\∀v H3,J.yld i H2 v H3->∀τ:St,τ.length=xs.length->g v (τ++aa3 js σ) H3 fun σ2 H3'=>(∃τ':St,τ'.length=xs.length/\σ2=τ'++aa3 js σ)/\tt σ2 H3' fun b H4=>if b=true then
    te σ2 H4 fun y H5=>∃ys,H5 D=some (.lst ys)/\ys.length<sizeLine/\∃m',m'<m/\W (i+1) m' (upd H5 D (.lst (ys++[y])))
    else ∃m',m'<m/\W (i+1) m' H4))
  (hRR:∀(D C:Addr) (s':Shared) (H':Hp) (m:Str->Option Value),Inv X pins σ H' s'->H' C=none->C≠X.env.locals->X.s₀.heap.objs.size<=C->(∀y c,X.env.cells.lookup y=some c->c≠C)->(∀p∈X.pn++pins,p.1≠C)->s'.heap.Ns C m->Q (.ref D) H'->RR (.ref D) C (.ok .next) s'):
  wpAny (model X.prog X.w) X.A (newList []) (fun acc s₃=>wpAny (model X.prog X.w) X.A (newFunctionEnv scope X.env.globals cl [] X.env.qual none .none (some X.env)) (fun cenv s₄=>
   codeAny (model X.prog X.w) X.A (.compStart (.ListComp elt [⟨tg,iter,ifs,0⟩] scope pos) 0 (.ref it) acc {cenv with scope:=relabel scope X.env}) (RR acc cenv.locals) s₄) X.xe s₃) X.xe s:=by
 refine dU ?_
 have hD:H s.heap.objs.size=none:=I.hok.fresh (aS _)
 have I3:Inv X pins σ (upd H s.heap.objs.size (.lst [])) {s with heap:=s.heap.push {cls:=.type "list",dict:=none,data:=.seq ([]:List Value).toArray} }:=I.lnew (its:=[]) (t':=s.toks) .nil (bK _)
 have hfp3:∀b∈fp,adF X pins (upd H s.heap.objs.size (.lst [])) b/\b<(s.heap.push {cls:=.type "list",dict:=none,data:=.seq ([]:List Value).toArray}).objs.size:=fun b hb=>by
  obtain⟨o,ho,_⟩:=T.obj 0 _ st b hb
  have hlt:=aV ho
  obtain⟨f0,f1⟩:=hfp b hb
  exact⟨⟨by rw[aaF (aX hlt)];exact f0,f1⟩,by rw[cH];exact cM hlt⟩
 have st3:tn 0 (s.heap.push {cls:=.type "list",dict:=none,data:=.seq ([]:List Value).toArray}):=T.keep _ _ _ st fun b _ o e=>aW _ e
 obtain⟨W,⟨m0,w0⟩,turn⟩:=q s.heap.objs.size hD
 generalize hs3:({s with heap:=s.heap.push {cls:=.type "list",dict:=none,data:=.seq ([]:List Value).toArray} }:Shared)=s3 at I3 ⊢
 have hh3:s.heap.push {cls:=.type "list",dict:=none,data:=.seq ([]:List Value).toArray}=s3.heap:=by rw[←hs3]
 rw[hh3] at hfp3 st3
 generalize s.heap.objs.size=D at I3 hfp3 w0 turn hD ⊢
 generalize upd H D (.lst [])=H3 at I3 hfp3 w0
 refine wpAny_newFunctionEnv hcl.nocell (by intro y hy;simp at hy) (fun h₁ hns₁ hsb₁=>?_) hcl.kind
 have hkeep:∀b o,s3.heap.get? b=some o->h₁.get? b=some o:=fun b o e=>hsb₁.extBut b o (aX (aV e)) (aW _ e)
 have J4:Inv (aaN X (xs++N') scope cl s3.heap.objs.size fp pins s3 H3) [] (List.replicate xs.length none++aa3 js σ) H3 {s3 with heap:=h₁,toks:=s3.toks+([]:List (Str×Value)).length}:=
  aqK hcl hN hk hf I3 hfp3 rfl rfl rfl hkeep hns₁
 have st4:tn 0 h₁:=T.keep _ _ _ st3 fun b _ o e=>hkeep b o e
 have cell':∀{s':Shared} {σ':St} {H':Hp},Inv (aaN X (xs++N') scope cl s3.heap.objs.size fp pins s3 H3) [] σ' H' s'->Q (.ref D) H'->RR (.ref D) s3.heap.objs.size (.ok .next) s':=fun {s' σ' H'} J hq=>by
  obtain⟨m,hn,_⟩:=J.loc
  refine hRR D _ s' H' m (axD I3 (fun b hb=>(hfp3 b hb).1) J) J.free (Nat.ne_of_gt I3.lt) I3.sz (fun y c e z=>?_) (fun p hp z=>?_) hn hq
  ·obtain⟨v,k⟩:=I3.cell y c e
   exact absurd k.lt (by rw[z];exact b8 _)
  ·exact absurd (aV (I3.pin p hp).1) (by rw[z];exact b8 _)
 have fpX:∀{H':Hp},(∀b∈fp,H' b=none)->∀b∈fp,adF (aaN X (xs++N') scope cl s3.heap.objs.size fp pins s3 H3) [] H' b:=fun {H'} hn b hb=>by
  obtain⟨⟨f0,f1,f2,f3,f4,f5⟩,flt⟩:=hfp3 b hb
  refine⟨hn b hb,aX flt,fun z=>?_,.inl hb,fun y c e=>f4 y c (hcl.sub y c e),fun p hp=>?_⟩
  ·rcases aY.mp (I3.stkSub b z) with z | z
   ·exact f1 z
   ·exact f2 z
  ·have hp:p∈(X.pn++pins)++[]:=hp
   rw[cI] at hp
   exact f5 p hp
 have loop:∀s₄:Shared,s₄={s3 with heap:=h₁,toks:=s3.toks+([]:List (Str×Value)).length}->
   codeAny (model X.prog X.w) X.A (.compLoop (.ListComp elt [⟨tg,iter,ifs,0⟩] scope pos) 0 (.ref it) (.ref D) (compEnvC scope cl s3.heap.objs.size X.env)) (RR (.ref D) s3.heap.objs.size) s₄:=by
  rintro s₄ rfl
  refine akN rfl (fun n s'=>∃i τ H',τ.length=xs.length/\Inv (aaN X (xs++N') scope cl s3.heap.objs.size fp pins s3 H3) [] (τ++aa3 js σ) H' s'/\tn i s'.heap/\(∀b∈fp,H' b=none)/\W i n H') ?_ m0 ⟨0,List.replicate xs.length none,H3,dD,J4,st4,fun b hb=>(hfp3 b hb).1.1,w0⟩
  rintro n s5 ⟨i,τ,H5,hτ,J5,st5,fr5,w5⟩
  rcases turn i n H5 w5 with ⟨stop,qn⟩ | ⟨go,step⟩
  ·refine dX (T.done (aaN X (xs++N') scope cl s3.heap.objs.size fp pins s3 H3) rfl rfl rfl hc i [] s5 _ H5 (fun _ _=>False) J5 (fpX fr5) st5 stop) (fun r s6 ⟨hr,J6⟩=>?_) fun _ _ z=>z.elim
   subst hr
   exact cell' J6 qn
  ·refine dX (T.item (aaN X (xs++N') scope cl s3.heap.objs.size fp pins s3 H3) rfl rfl rfl hc i [] s5 _ H5 (fun _ _=>False) J5 (fpX fr5) st5 go) (fun r s6 ⟨u,hr,h6⟩=>?_) fun _ _ z=>z.elim
   subst hr
   refine dX h6 (fun _ s6' h6'=>?_) fun _ _ z=>z.elim
   obtain⟨v,H6,J6,r6,y6,st6,fr6⟩:=h6'
   clear h6
   have J6':=J6.pinned (fpX fr6) (T.obj _ _ st6)
   show wpAny _ _ (assign tg _ u) _ _ _
   refine dX (hg _ _ _ _ _ _ s6' _ H6 v u _ J6' r6 (step v H6 y6 τ hτ)) (fun _ s7 h7=>?_) fun _ _ z=>z.elim
   obtain⟨_,H7,J7,⟨τ',hτ',rfl⟩,q7⟩:=h7
   have again:∀{σ8:St} {H8:Hp} {s8:Shared},Inv (aaN X (xs++N') scope cl s3.heap.objs.size fp pins s3 H3) ([]++afW fp s6'.heap) σ8 H8 s8->tn (i+1) s8.heap/\∀b∈fp,H8 b=none:=fun {σ8 H8 s8} J8=>by
    refine⟨T.keep _ _ _ st6 fun b hb o e=>(J8.pin (b,o) (bY _ (bY _ (ab2 hb e)))).1,fun b hb=>?_⟩
    obtain⟨o,e,d⟩:=T.obj _ _ st6 b hb
    exact (J8.pin (b,o) (bY _ (bY _ (ab2 hb e)))).2.1
   refine dX (ht _ _ _ _ _ _ s7 _ H7 _ J7 q7) (fun ok s8 ⟨H8,J8,q8⟩=>?_) fun _ _ z=>z.elim
   cases ok with
   |false=>
    obtain⟨m',hm,w8⟩:=(show ∃m',m'<n/\W (i+1) m' H8 from q8)
    obtain⟨a1,a2⟩:=again J8
    exact⟨m',hm,i+1,τ',H8,hτ',J8.unpinned,a1,a2,w8⟩
   |true=>
    refine dX (he _ _ _ _ _ _ s8 _ H8 _ J8 q8) (fun y s9 ⟨z,H9,J9,r9,ys,hys,hlen,m',hm,w9⟩=>?_) fun _ _ z=>z.elim
    refine dX (ahE (X:=aaN X (xs++N') scope cl s3.heap.objs.size fp pins s3 H3) _ s9 _ H9 (.ref D) [z] (.ref D) [y] (fun _ H10=>H10=upd H9 D (.lst (ys++[z]))) J9 rfl (.cons r9 .nil) ⟨D,ys,z,rfl,rfl,hys,hlen,rfl⟩) (fun _ s10 ⟨_,H10,J10,_,e10⟩=>?_) fun _ _ z=>z.elim
    subst e10
    obtain⟨a1,a2⟩:=again J10
    exact⟨m',hm,i+1,τ',_,hτ',J10.unpinned,a1,a2,w9⟩
 exact codeAny_compStart_list (loop _ rfl) (T.self _ 0 _ _ _ st4 (loop _ rfl))
theorem axY(hcl:Clos X scope cl)(hnd:(xs++N').Nodup)(hN:js.map (fun j=>X.N[j]?)=N'.map some)
  (hk:N'.all (fun y=>(X.env.kindOf y==some .cell)||(X.env.kindOf y==some .free))=true) (hf:N'.all (fun y=>scope.names.lookup y==some .free)=true) (hc:X.calm=true)
  (hi:PI X (tg) iter wi)
  (hg:∀(C:Addr) (ex:List Addr) (pins:List (Addr×Obj)) (s:Shared) (H:Hp),PG (aaN X (xs++N') scope cl C ex pins s H) tg g)
  (ht:∀(C:Addr) (ex:List Addr) (pins:List (Addr×Obj)) (s:Shared) (H:Hp),PF (aaN X (xs++N') scope cl C ex pins s H) ifs tt)
  (he:∀(C:Addr) (ex:List Addr) (pins:List (Addr×Obj)) (s:Shared) (H:Hp),PE (aaN X (xs++N') scope cl C ex pins s H) elt te)
  (hs:∀x,foldedSetIterable iter X.env x=pure x:=by intro _;rfl):
  PE X (.ListComp elt [⟨tg,iter,ifs,0⟩] scope pos) (azQ wi xs.length js g tt te):=by
 intro pins s σ H Q I h
 rw[eval_ListComp]
 refine wpAny_comprehension_free (use:=none) rfl hs hcl.is hcl.kind hcl.names (thn (hi pins s σ H _ I h) fun xv s₁ h₁=>thn h₁ fun itv s₂ h₂=>?_)
 obtain⟨it,fp,tn,J,H2,rfl,I2,T,st,hfp,q⟩:=h₂
 refine asB (RR:=fun acc C=>compPost (model X.prog X.w) X.A X.xe none (EP X pins σ Q) acc C) hcl hnd hN hk hf hc hg ht he I2 T st hfp q ?_
 intro D C s' H' m I' hC0 hCL hCs hCc hCp hn hq
 refine⟨m,hn,fun h' sb=>⟨.ref D,H',?_,rfl,hq⟩⟩
 exact I'.turned (t':=s'.toks) (fun b o hb e=>(sb.2 b hb).trans e) hC0 hCL (.inr hCs) hCc hCp
theorem aE6(xs N':List Str)(js:List Nat)(hi:Il X (tg) iter wi)
  (hg:∀(cl:List (Str×Addr)) (C:Addr) (ex:List Addr) (pins:List (Addr×Obj)) (s:Shared) (H:Hp),Gt (aaN X (xs++N') scope cl C ex pins s H) tg g)
  (ht:∀(cl:List (Str×Addr)) (C:Addr) (ex:List Addr) (pins:List (Addr×Obj)) (s:Shared) (H:Hp),Fs (aaN X (xs++N') scope cl C ex pins s H) ifs tt)
  (he:∀(cl:List (Str×Addr)) (C:Addr) (ex:List Addr) (pins:List (Addr×Obj)) (s:Shared) (H:Hp),E (aaN X (xs++N') scope cl C ex pins s H) elt te)
  (hcl:∃cl,Clos X scope cl:=by exact apJ rfl rfl rfl rfl) (hnd:(xs++N').Nodup:=by decide +kernel) (hN:js.map (fun j=>X.N[j]?)=N'.map some:=by rfl)
  (hk:N'.all (fun y=>(X.env.kindOf y==some .cell)||(X.env.kindOf y==some .free))=true:=by rfl) (hf:N'.all (fun y=>scope.names.lookup y==some .free)=true:=by rfl) (hc:X.calm=true:=by rfl)
  (hs:∀x,foldedSetIterable iter X.env x=pure x:=by intro _;rfl):E X (.ListComp elt [⟨tg,iter,ifs,0⟩] scope pos) (azQ wi xs.length js g tt te):=by
 obtain⟨cl,hcl⟩:=hcl
 exact⟨axY hcl hnd hN hk hf hc hi.h (fun C ex pins s H=>(hg cl C ex pins s H).h) (fun C ex pins s H=>(ht cl C ex pins s H).h) (fun C ex pins s H=>(he cl C ex pins s H).h) hs⟩
end
section
variable{js:List Nat}{σ:St}{tt:TT}{te:TE}{Q:VK}{H1:Hp}
end
theorem gTuc{X:Cx}{pos:Pos}{K:FG}{es:List Expr}{k n:Nat}{t:TGs}(h:Gts X es t)(hK:X.K=K:=by rfl)(hc:X.calm=true:=by rfl)(hn:(assignEach es X.env).length=n:=by rfl)(hst:(assignEach es X.env).findIdx? (·.1)=none:=by rfl):Gt X (.Tuple es k pos) (aBK K n t):=by
 subst hK
 exact gTu h hc hn hst
section
variable{X:Cx}
end
section
variable{X:Cx}{elt iter tg:Expr}{xs:List Str}{y:Str}{py pos spos:Pos}{ifs:List Expr}{scope:Scope}{cl:List (Str×Addr)}{N':List Str}{js:List Nat}{tt:TT}{te:TE}{g:TG}{wi:TI}
end
end L2
namespace L2
open PySem PySem.Spec PyProof.Rows PySem.SeqAt
section
variable{X:Cx}
end
section
variable{M:Model}{A:Around}{E:Value->Shared->Prop}{s:Shared}{f:Obj->Prop}{B:Heap}{env:Env}{outer l:List Env}{L e:Addr}{fl:Value}{Q:Unit->Shared->Prop}
end
theorem ObjOk.at{P:Program}{w:World}{H:Hp}{h:Heap}{a:Addr}{o:HO}(x:ObjOk P w H h a o):∃ob,h.get? a=some ob:=by
 induction o with
 |lst xs=>obtain⟨_,_,_,_,e⟩:=x;exact⟨_,e⟩
 |tup xs=>obtain⟨_,_,_,ob,e,_⟩:=x;exact⟨_,e⟩
 |dK kvs=>obtain⟨_,_,_,_,ob,_,_,e,_⟩:=x;exact⟨_,e⟩
 |dT kvs=>obtain⟨_,_,_,_,ob,_,_,e,_⟩:=x;exact⟨_,e⟩
 |set S n=>obtain⟨ob,_,_,_,e,_⟩:=x;exact⟨_,e⟩
 |ins C dx fs=>obtain⟨_,_,_,e,_⟩:=x;exact⟨_,e⟩
 |own y=>exact x
 |xd fs=>obtain⟨_,⟨ob,_,_,e,_⟩,_⟩:=x;exact⟨_,e⟩
 |rng lo hi=>obtain⟨_,_,_,e⟩:=x;exact⟨_,e⟩
 |frz ob u ih=>exact⟨_,x.1⟩
 |tbl ps=>exact⟨_,x⟩
 |met f y=>exact⟨_,x⟩
 |ext φ=>exact x.2.1
noncomputable def Ex(C:Addr)(d:Option Addr)(b:Bool)(o:Obj):Prop:=o.cls=.ref C/\o.dict=d/\∃vs,o.data=.fields vs/\(b=true->vs[2]? =some .none)
noncomputable def wc(C:Addr):Value:=.int C 0
noncomputable def cv(C:Addr):Bool->Value
 |true=>.ref C
 |false=>wc C
noncomputable def Fly(g h:Heap)(H:Hp)(a C:Addr)(d:Option Addr)(b:Bool):Prop:=
 H a=none/\g.get? a=none/\∃(o:Obj) (vs:Array Value) (T:Addr) (oT:Obj) (ts:Array Value),(h.get? a=some o/\o.data=.fields vs/\vs[1]? =some (.ref T)/\Ex C d b o)/\
  (h.get? T=some oT/\oT.data=.fields ts/\ts[3]? =some .none)/\(H T=none/\g.get? T=none)/\T≠a
noncomputable def CX1(P:Program)(w:World):CXT:=fun outer H s E e s'=>
 ∃a C d b H',e=.ref a/\s'.os=s.os/\AllBare s'.gens/\Un (frs outer) [] H H' s.heap s'.heap/\HOk P w H' s'.heap/\Fly s.heap s'.heap H' a C d b/\E (cv C b) d H'
section
variable{P:Program}{w:World}{K:FG}{mg:Str->Option Value}{base:Heap}{N:List Str}{qual:Str}{scope:Scope}{f:Addr}{cd:Value}{A:Around}{outer:List Env}{s0:Shared}{H0:Hp}{E:XK}
end
noncomputable abbrev aLX:List Value:=[.type "ValueError",.type "Exception",.type "BaseException",.type "object"]
structure Xc(K:FG)(mg:Str->Option Value)(x:Str)(C:Addr):Prop where
 m:mg x=some (.ref C)
 n:PySem.W.nsIn K mainGlobals x=some (some (.ref C))
 q:PySem.W.excIn K C aLX "ValueError.__new__"=true
theorem Mod.top{K:FG}{mg:Str->Option Value}{base:Heap}(m:Mod K mg base)(p:Program):∃loose mb,PySem.W.TopRead p loose mg mb base:=by
 obtain⟨mb,b1,b2⟩:=m.blt
 obtain⟨o,es,ep,ho,hd,hk,hf⟩:=id m.glob
 refine⟨es.toList.filterMap fun e=>match e.key with | .str y _=>some y | _=>none,mb,m.glob,b1,m.nolimit,b2,fun x _ hx _ _ _=>?_⟩
 rw[←hf]
 have none_:es.find? (fun e=>e.key.isStr x)=none:=by
  rw[Array.find?_eq_none]
  intro e he hs
  obtain⟨y,t,ek⟩:=hk e he
  refine hx (List.mem_filterMap.mpr ⟨e,by simpa using he,?_⟩)
  rw[ek] at hs ⊢
  have:y=x:=by simpa [Value.isStr] using hs
  rw[this]
 show (es.find? fun e=>e.key.isStr x).map (·.val)=none
 rw[none_]
 rfl
theorem Xc.own{K:FG}{mg:Str->Option Value}{base:Heap}{x:Str}{C:Addr}(c:Xc K mg x C)(m:Mod K mg base)(p:Program):OwnCls x C aLX "ValueError.__new__" mg base:=by
 obtain⟨loose,mb,T⟩:=m.top p
 exact PySem.W.own_of_in m.kin T c.n c.q
section
variable{X:Cx}{E:XK}{x:Str}{C:Addr}{e:Expr}{es:List Expr}{t:TA}{np cpos pos:Pos}
end
section
variable{P:Program}{w:World}{K:FG}{mg:Str->Option Value}{base:Heap}{N:List Str}{qual:Str}{scope:Scope}{f:Addr}{cd:Value}{A:Around}{outer:List Env}{s0:Shared}{H0:Hp}{E:XK}
end
section
variable{P:Program}{w:World}{K:FG}{mg:Str->Option Value}{base:Heap}{x:Str}{st:Stmt}{ps N:List Str}{k:Nat}{sp:Sp}
end
noncomputable def XP(X:Cx)(pins:List (Addr×Obj))(σ:St)(E:XK)(e:Value)(s':Shared):Prop:=∃s1 H1,Inv X pins σ H1 s1/\CX1 X.prog X.w X.stack H1 s1 E e s'
noncomputable abbrev TX:=St->Hp->VK->XK->Prop
noncomputable abbrev TB:=Ends->St->Hp->XK->Prop
section
variable{X:Cx}{k k':Nat}{ps:List Str}{sp:Sp}{x:Str}{e:Expr}{es:List Expr}{tA:TA}{p pos:Pos}{t:TX}
end
section
variable{X:Cx}{pins:List (Addr×Obj)}{σ:St}{H:Hp}{s:Shared}
end
noncomputable def xo(a C:Addr)(d:Option Addr)(b:Bool):HO:=.ext fun h=>∃o,h.get? a=some o/\Ex C d b o
section
variable{X:Cx}{body suite:List Stmt}{b0:Stmt}{tb:TB}{th:Addr->TS}{cx n:Str}{np hpos pos:Pos}{CF:Addr}
end
section
variable{X:Cx}{E:XK}{x:Str}{C:Addr}{e:Expr}{es:List Expr}{tA:TA}{np cpos pos p:Pos}{k k':Nat}{ps:List Str}{sp:Sp}
end
noncomputable def AtC(a C:Addr)(h:Heap):Prop:=∃o vs,h.get? a=some o/\o.cls=.ref C/\o.data=.fields vs
theorem AtC.ty{M:Model}{a C:Addr}{h:Heap}(x:AtC a C h):PySem.W.Looks M h (typeOf (.ref a)) (.ref C):=by
 obtain⟨o,vs,h1,h2,_⟩:=x
 exact h2▸(PySem.W.Looks.ld h1).andThen .now
section
open PySem.W
variable{prog:Program}{w:World}{A:Around}{E:Value->Shared->Prop}{s:Shared}{K:FG}{a C:Addr}
open Builtin Builtin.ObjectAttr Builtin.Getset_descriptor in
open Builtin Builtin.ObjectAttr in
end
section
variable{X:Cx}{body suite:List Stmt}{b0:Stmt}{tb:TB}{th:Addr->TS}{cx:Str}{np hpos pos:Pos}{CF:Addr}
end
section
variable{prog:Program}{w:World}{A:Around}{E:Value->Shared->Prop}{s:Shared}{e C a:Addr}{d:Option Addr}
end
section
variable{prog:Program}{w:World}{A:Around}{E:Value->Shared->Prop}{s:Shared}{env:Env}{e C a:Addr}{d:Option Addr}
end
section
variable{P:Program}{w:World}{K:FG}{mg:Str->Option Value}{base:Heap}{N:List Str}{qual:Str}{scope:Scope}{f:Addr}{cd:Value}{A:Around}{outer:List Env}{s0:Shared}{H0:Hp}{E:XK}
end
section
variable{X:Cx}{E:XK}{x:Str}{C a:Addr}{e:Expr}{es:List Expr}{t:TA}{np cpos pos p2:Pos}{j:Nat}
end
noncomputable def tDi:TE:=fun _ H Q=>∀p,H p=none->Q (.ref p) (upd H p (.dK []))
section
variable{X:Cx}{pos:Pos}{o i:Expr}{to ti:TE}
theorem Inv.bigM{pins:List (Addr×Obj)}{σ:St}{H:Hp}{s:Shared}(I:Inv X pins σ H s):sysModules<s.heap.objs.size:=by
 have h:mainGlobals<s.heap.objs.size:=(I.mod.glob.keeps I.bk).lt
 exact Nat.lt_trans (by decide) h
theorem eDi:E X (.Dict [] [] pos) tDi:=⟨fun pins s σ H Q I h=>wpAny_Dict_empty ⟨.ref s.heap.objs.size,_,I.laid (a:=s.heap.objs.size) (o:=.dK []) (t':=s.toks) (fun _ _ q=>aW _ q) (aS _)
 ⟨bK _,beq_eq_false_iff_ne.mpr (Ne.symm (aX I.bigM)),[],.nil,Heap.DictOf.new s.heap⟩,rfl,h _ (I.hok.fresh (aS _))⟩⟩
theorem gSb(ho:E X o to)(hi:E X i ti)(ha:∀v,assign (.Subscript o i pos) X.env v=(do
   let ov ←holding [v] (eval o X.env)
   let iv ←holding [v,ov] (eval i X.env)
   standAt pos
   holding [v,ov,iv] (setItem ov iv v)
   release [v,ov,iv] []):=by intro _;rfl):Gt X (.Subscript o i pos) (aOG to ti aDX):=⟨aE1 ho.h hi.h ay8 ha⟩
end
theorem KindV.same{K:FG}{H H':Hp}{v:V}{k:Kd}(h:KindV K H v k)(s:Same H H'):KindV K H' v k:=by
 cases v with
 |ref a=>
  rcases h with ⟨e,xs,h⟩ | ⟨e,xs,h⟩ | ⟨e,xs,h⟩
  ·exact .inl ⟨e,xs,s.seq h⟩
  ·refine .inr (.inl ⟨e,xs,?_⟩)
   rcases h with (h | ⟨o,h⟩) | h
   ·exact .inl (.inl (s _ _ h))
   ·exact .inl (.inr ⟨o,s _ _ h⟩)
   ·exact .inr h
  ·exact .inr (.inr ⟨e,xs,s _ _ h⟩)
 |int i=>exact h
 |bl b=>exact h
 |str x=>exact h
 |non=>exact h
 |byt b=>exact h
 |flt b=>exact h
 |ty n=>exact h
section
variable{X:Cx}
end
section
variable{js:List Nat}{σ:St}{tt:TT}{te:TE}{Q:VK}{H1:Hp}
end
noncomputable def ae3(l:List Nat)(lo hi:Option Int):List Nat:=(l.drop (HT.sIx l.length 0 lo)).take (HT.sIx l.length l.length hi-HT.sIx l.length 0 lo)
theorem aDF(v:Option Int)(n d:Nat):(match v with | none=>(d:Int) | some i=>max 0 (min (if i<0 then i+(n:Int) else i) (n:Int)))=((HT.sIx n d v:Nat):Int):=by
 cases v with
 |none=>rfl
 |some i=>
  show max 0 (min (if i<0 then i+(n:Int) else i) (n:Int))=(((if i<0 then (i+(n:Int)).toNat else min i.toNat n):Nat):Int)
  by_cases h:i<0
  ·rw[if_pos h,if_pos h];omega
  ·rw[if_neg h,if_neg h];omega
theorem aAP(lo hi:Option Int)(n:Nat):Builtin.Str.strSliceIndices lo hi 1 n=sliceRange ((HT.sIx n 0 lo:Nat):Int) ((HT.sIx n n hi:Nat):Int) 1:=by
 unfold Builtin.Str.strSliceIndices
 simp only[show ((1:Int)>0)=True from by simp,if_true]
 rw[←aDF lo n 0,←aDF hi n n]
 cases lo<;>cases hi<;>rfl
theorem arK(a b:Nat):sliceRange (a:Int) (b:Int) 1=(List.range (b-a)).map fun k=>a+k:=by
 rcases cV a b with c | c
 ·have up:(a:Int)<b:=by omega
  have many:(((b:Int)-a+1-1) / 1).toNat=b-a:=by rw[Int.ediv_one];omega
  have e:∀k:Nat,((a:Int)+1*(k:Int)).toNat=a+k:=fun k=>by omega
  simp only[sliceRange,gt_iff_lt,Int.one_pos,if_true,up,many,e]
 ·have no:¬((a:Int)<b):=by omega
  have z:b-a=0:=by omega
  simp only[sliceRange,gt_iff_lt,Int.one_pos,if_true,no,if_false,z,List.range_zero,List.map_nil]
  rfl
theorem awY(l:List Nat)(n a:Nat):((List.range n).map fun k=>a+k).filterMap (fun i=>(Tx l).cps[i]?)=(l.drop a).take n:=by
 rw[List.filterMap_map]
 induction n with
 |zero=>rw[List.take_zero];rfl
 |succ n ih=>
  have one:[n].filterMap ((fun i=>(Tx l).cps[i]?) ∘ fun k=>a+k)=(l[a+n]?).toList:=by
   show List.filterMap _ [n]=_
   cases e:l[a+n]? <;>simp[e]
  rw[List.range_succ,dM,ih,one,List.take_add_one,List.getElem?_drop]
theorem aFA(l:List Nat)(lo hi:Option Int):(Builtin.Str.strSliceIndices lo hi 1 l.length).filterMap (fun i=>(Tx l).cps[i]?)=ae3 l lo hi:=by
 rw[aAP,arK,awY]
 rfl
theorem aw9(l:List Nat)(lo hi:Option Int)(h:(Builtin.Str.strSliceIndices lo hi 1 l.length).length=l.length):ae3 l lo hi=l:=by
 rw[aAP,arK,aU,cE] at h
 have h1:=HT.sIx_le l.length l.length (aS _) hi
 have e1:HT.sIx l.length 0 lo=0∨l.length=0:=by omega
 unfold ae3
 rcases e1 with e | e
 ·rw[e]
  have:HT.sIx l.length l.length hi=l.length:=by omega
  rw[this]
  simp
 ·have:l=[]:=List.eq_nil_of_length_eq_zero e
  subst this
  simp
theorem agB(l:List Nat)(lo hi:Option Int):(ae3 l lo hi).length<=l.length:=by
 unfold ae3
 rw[dC,List.length_drop]
 omega
section
variable{X:Cx}
noncomputable def rSlX:V->Option Int->Option Int->Hp->VK->Prop:=fun x lo hi H Q=>∃l:List Nat,x=.str (Tx l)/\l.length<=sizeLine/\Q (.str (Tx (ae3 l lo hi))) H
theorem slX:Sls X rSlX:=by
 refine⟨fun pins s σ H x v vl vu lo hi sl Q I rx hs pl pu h=>?_⟩
 obtain⟨l,rfl,hz,q⟩:=h
 obtain⟨t,rfl⟩:=rx
 refine⟨"str",_,PySem.F.slot_str_getitem.lookup,typeIs_str _ _ _,?_⟩
 obtain⟨o,ho,hc,hd⟩:=hs
 have fin:∀(a b:Option (Int×Tok)),o.data=.fields #[partValue a,partValue b,.none]->a.map (·.1)=lo->b.map (·.1)=hi->wpAny (model X.prog X.w) X.A (getItem (.str (Tx l) t) (.ref sl)) (EP X pins σ Q) X.xe s:=fun a b hd ea eb=>by
  refine wpAny_getItem_str_slice (l:=a) (u:=b) (st:=none) ⟨o,ho,hc,hd⟩ rfl ?_
  have ep:slicePicked (Tx l) a b none=Builtin.Str.strSliceIndices lo hi 1 l.length:=by unfold slicePicked;rw[ea,eb,abE];rfl
  unfold sliceMade
  rw[ep]
  split
  ·next hw=>
   have hw2:(Builtin.Str.strSliceIndices lo hi 1 l.length).length=l.length:=by
    have:=(Bool.and_eq_true_iff.mp hw).2
    rw[abE] at this
    exact beq_iff_eq.mp this
   show EP X pins σ Q _ s
   rw[aw9 l lo hi hw2] at q
   exact⟨.str (Tx l),H,I,⟨t,rfl⟩,q⟩
  ·rw[aFA]
   exact⟨by rw[abE];exact bO (agB l lo hi) hz,⟨.str (Tx (ae3 l lo hi)),H,I.tok _,⟨_,rfl⟩,q⟩⟩
 cases pl with
 |none=>
  cases pu with
  |none=>exact fin none none hd rfl rfl
  |int j tj=>exact fin none (some (j,tj)) hd rfl rfl
 |int i ti=>
  cases pu with
  |none=>exact fin (some (i,ti)) none hd rfl rfl
  |int j tj=>exact fin (some (i,ti)) (some (j,tj)) hd rfl rfl
theorem aF7(m:Nat):num m≠[]:=fun e=>Nat.toDigits_ne_nil (List.map_eq_nil_iff.mp e)
end
section
variable{prog:Program}{w:World}{A:Around}{E:Value->Shared->Prop}{s:Shared}{I:Addr}{fp wr:List Addr}{G:Array GenState->Array GenState->Prop}{n:Nat}{P:Nat->Value->Prop}{St:Nat->Shared->Prop}
end
section
variable{X:Cx}{o e:Expr}{to te:TE}{p rpos apos cpos:Pos}
end
theorem aqI{X:Cx}{e:Expr}{t u:TE}(h:E X e t)(h':E X e u):E X e (fun σ H Q=>t σ H Q∨u σ H Q):=
 ⟨fun pins s σ H Q I z=>z.elim (fun z=>h.h pins s σ H Q I z) fun z=>h'.h pins s σ H Q I z⟩
section
variable{X:Cx}
end
section
variable{κ:Type}[DecidableEq κ]
noncomputable def acJ(kvs:List (κ×V))(k:κ):Option V:=(kvs.find? fun kv=>decide (kv.1=k)).map (·.2)
noncomputable def afU(kvs:List (κ×V))(k:κ)(v:V):List (κ×V):=
 if (kvs.any fun kv=>decide (kv.1=k))=true then kvs.map (fun kv=>if kv.1=k then (kv.1,v) else kv) else kvs++[(k,v)]
theorem abJ{p:κ×V}{r:List (κ×V)}{k:κ}(e:p.1=k):acJ (p::r) k=some p.2:=by simp[acJ,dH,e]
theorem abG{p:κ×V}{r:List (κ×V)}{k:κ}(e:¬p.1=k):acJ (p::r) k=acJ r k:=by simp[acJ,dH,e]
theorem agS(k:κ):∀kvs:List (κ×V),(kvs.any fun kv=>decide (kv.1=k))=(acJ kvs k).isSome
 |[]=>rfl
 |p::r=>by
  rw[bN]
  by_cases e:p.1=k
  ·simp only[abJ e,eC e,Bool.true_or,Option.isSome_some]
  ·rw[abG e,eF e,c8];exact agS k r
theorem arM(k j:κ)(y:V):∀kvs:List (κ×V),acJ (kvs.map fun kv=>if kv.1=k then (kv.1,y) else kv) j=(acJ kvs j).map fun x=>if j=k then y else x
 |[]=>rfl
 |p::r=>by
  have ih:=arM k j y r
  rw[bG]
  by_cases h:p.1=k
  ·rw[if_pos h]
   by_cases e:p.1=j
   ·rw[abJ (p:=(p.1,y)) e,abJ e,dF,if_pos (e.symm.trans h)]
   ·rw[abG (p:=(p.1,y)) e,abG e,ih]
  ·rw[if_neg h]
   by_cases e:p.1=j
   ·rw[abJ (p:=p) e,abJ e,dF,if_neg (fun z=>h (e.trans z))]
   ·rw[abG (p:=p) e,abG e,ih]
theorem amO(k j:κ)(y:V):∀kvs:List (κ×V),acJ kvs k=none->acJ (kvs++[(k,y)]) j=if j=k then some y else acJ kvs j
 |[],_=>by
  by_cases e:k=j
  ·rw[if_pos e.symm];exact abJ (p:=(k,y)) e
  ·rw[if_neg (fun z=>e z.symm)];exact abG (p:=(k,y)) e
 |p::r,hn=>by
  rw[List.cons_append]
  have hk:¬p.1=k:=fun z=>by rw[abJ z] at hn;cases hn
  rw[abG hk] at hn
  have ih:=amO k j y r hn
  by_cases e:p.1=j
  ·rw[abJ e,abJ e,if_neg (fun z=>hk (e.trans z))]
  ·rw[abG e,abG e,ih]
theorem arI(kvs:List (κ×V))(k j:κ)(y:V):acJ (afU kvs k y) j=if j=k then some y else acJ kvs j:=by
 unfold afU
 by_cases a:(kvs.any fun kv=>decide (kv.1=k))=true
 ·rw[if_pos a,arM]
  rw[agS] at a
  by_cases e:j=k
  ·obtain⟨x,hx⟩:=dB.mp a
   rw[if_pos e,e,hx,dF,if_pos rfl]
  ·rw[if_neg e]
   cases acJ kvs j with
   |none=>rfl
   |some x=>rw[dF,if_neg e]
 ·rw[if_neg a]
  refine amO k j y kvs ?_
  rw[agS] at a
  cases q:acJ kvs k with
  |none=>rfl
  |some x=>rw[q] at a;exact (a rfl).elim
theorem aeB(kvs:List (κ×V))(k:κ)(v:V):(afU kvs k v).length<=kvs.length+1:=by
 unfold afU
 split
 ·rw[aU];omega
 ·rw[bC,bX,List.length_nil];omega
theorem RelO.isSome_eq{o:Option V}{u:Option Value}(r:RelO o u):o.isSome=u.isSome:=by
 cases o with
 |none=>cases u with
  |none=>rfl
  |some _=>exact (show False from r).elim
 |some _=>cases u with
  |none=>exact (show False from r).elim
  |some _=>rfl
theorem KV.val{kvs:List (κ×V)}{vs:List (κ×Value)}(r:KV kvs vs)(k:κ):RelO (acJ kvs k) (valueAt vs k):=by
 unfold KV at r
 induction r with
 |nil=>exact True.intro
 |@cons p q ps qs h t ih=>
  obtain⟨h1,h2⟩:=h
  by_cases e:p.1=k
  ·have e':q.1=k:=h1.symm.trans e
   have b:valueAt (q::qs) k=some q.2:=by simp[valueAt,dH,e']
   rw[abJ e,b];exact h2
  ·have e':¬q.1=k:=fun z=>e (h1.trans z)
   have b:valueAt (q::qs) k=valueAt qs k:=by simp[valueAt,dH,e']
   rw[abG e,b];exact ih
theorem KV.any{kvs:List (κ×V)}{vs:List (κ×Value)}(r:KV kvs vs)(k:κ):(kvs.any fun kv=>decide (kv.1=k))=vs.any fun kv=>decide (kv.1=k):=by
 unfold KV at r
 induction r with
 |nil=>rfl
 |cons h t ih=>rw[bN,bN,ih,h.1]
theorem KV.repl{kvs:List (κ×V)}{vs:List (κ×Value)}(r:KV kvs vs)(k:κ){y:V}{u:Value}(ry:RelV y u):
  KV (kvs.map fun kv=>if kv.1=k then (kv.1,y) else kv) (vs.map fun kv=>if kv.1=k then (kv.1,u) else kv):=by
 unfold KV at r ⊢
 induction r with
 |nil=>exact .nil
 |@cons p q ps qs h t ih=>
  rw[bG,bG]
  refine .cons ?_ ih
  obtain⟨h1,h2⟩:=h
  by_cases e:p.1=k
  ·rw[if_pos e,if_pos (h1.symm.trans e)];exact⟨h1,ry⟩
  ·rw[if_neg e,if_neg (fun z=>e (h1.trans z))];exact⟨h1,h2⟩
theorem KV.put{kvs:List (κ×V)}{vs:List (κ×Value)}(r:KV kvs vs)(k:κ){y:V}{u:Value}(ry:RelV y u):KV (afU kvs k y) (stored vs k u):=by
 unfold afU stored
 rw[r.any k]
 by_cases e:(vs.any fun kv=>decide (kv.1=k))=true
 ·rw[if_pos e,if_pos e];exact r.repl k ry
 ·rw[if_neg e,if_neg e];exact Paired.snoc r ⟨rfl,ry⟩
theorem KV.length{kvs:List (κ×V)}{vs:List (κ×Value)}(r:KV kvs vs):kvs.length=vs.length:=Paired.length r
end
theorem ap8{P:Program}{w:World}{k:Key}{u:Value}(r:RelV (kV k) u):(abB P w).is k u=true:=by
 cases k with
 |inl i=>obtain⟨t,e⟩:=(show ∃t,u=Value.int i t from r);subst e;exact arN P w i t
 |inr x=>obtain⟨t,e⟩:=(show ∃t,u=Value.str x t from r);subst e;exact aqN P w x t
theorem ac7{P:Program}{w:World}:∀{ks:List Key} {us:List Value},Vals (ks.map kV) us->ItemsAre (abB P w) ks us
 |[],_,r=>by rw[List.map_nil] at r;cases r;exact .nil
 |k::ks,_,r=>by
  rw[bG] at r
  cases r with
  |cons h t=>exact .cons (ap8 h) (ac7 t)
noncomputable abbrev KT(H:Hp):List (List Key×V)->List (List Key×Addr×Value)->Prop:=Paired fun p q=>p.1=q.1/\H q.2.1=some (.tup (p.1.map kV))/\RelV p.2 q.2.2
theorem KT.val{H:Hp}{kvs:List (List Key×V)}{xs:List (List Key×Addr×Value)}(r:KT H kvs xs)(k:List Key):RelO (acJ kvs k) ((atKey xs k).map (·.2)):=by
 induction r with
 |nil=>exact True.intro
 |@cons p q ps qs h t ih=>
  obtain⟨h1,_,h2⟩:=h
  by_cases e:p.1=k
  ·have e':q.1=k:=h1.symm.trans e
   have b:atKey (q::qs) k=some q.2:=by simp[atKey,dH,e']
   rw[abJ e,b];exact h2
  ·have e':¬q.1=k:=fun z=>e (h1.trans z)
   have b:atKey (q::qs) k=atKey qs k:=by simp[atKey,dH,e']
   rw[abG e,b];exact ih
theorem KT.repl{H:Hp}{kvs:List (List Key×V)}{xs:List (List Key×Addr×Value)}(r:KT H kvs xs)(k:List Key){y:V}{u:Value}(ry:RelV y u):
  KT H (kvs.map fun kv=>if kv.1=k then (kv.1,y) else kv) (xs.map (putAt k u)):=by
 induction r with
 |nil=>exact .nil
 |@cons p q ps qs h t ih=>
  rw[bG,bG]
  refine .cons ?_ ih
  obtain⟨h1,h2,h3⟩:=h
  unfold putAt
  by_cases e:p.1=k
  ·rw[if_pos e,if_pos (h1.symm.trans e)];exact⟨h1,h2,ry⟩
  ·rw[if_neg e,if_neg (fun z=>e (h1.trans z))];exact⟨h1,h2,h3⟩
theorem KT.put{H:Hp}{kvs:List (List Key×V)}{xs:List (List Key×Addr×Value)}(r:KT H kvs xs)(k:List Key){b:Addr}{y:V}{u:Value}(hb:H b=some (.tup (k.map kV)))(ry:RelV y u):
  KT H (afU kvs k y) (storedH xs k b u):=by
 have e:(kvs.any fun kv=>decide (kv.1=k))=(atKey xs k).isSome:=by
  rw[agS,(r.val k).isSome_eq,Option.isSome_map]
 unfold afU storedH
 rw[e]
 by_cases q:(atKey xs k).isSome=true
 ·rw[if_pos q,if_pos q];exact r.repl k ry
 ·rw[if_neg q,if_neg q];exact Paired.snoc r ⟨rfl,hb,ry⟩
theorem KT.keeps{H H':Hp}{kvs:List (List Key×V)}{xs:List (List Key×Addr×Value)}(r:KT H kvs xs)(ht:∀b ys,H b=some (.tup ys)->H' b=some (.tup ys)):KT H' kvs xs:=
 Paired.mapP r fun _ _ z=>⟨z.1,ht _ _ z.2.1,z.2.2⟩
section
variable{P:Program}{w:World}{H:Hp}{h:Heap}{a:Addr}
theorem aD0{u:HO}(ok:HOk P w H h)(e:Rd H a u):ObjOk P w H h a u:=e.ok ok
theorem av4{kvs:List (Key×V)}(ok:HOk P w H h)(e:Rd H a (.dK kvs)):kvs.length<=sizeLine/\(a==sysModules)=false/\∃vs,KV kvs vs/\h.DictOf (abB P w) a vs:=
 show ObjOk P w H h a (.dK kvs) from aD0 ok e
theorem aII{kvs:List (Key×V)}(ok:HOk P w H h)(e:H a=some (.dK kvs)):kvs.length<=sizeLine/\(a==sysModules)=false/\∃vs,KV kvs vs/\h.DictOf (abB P w) a vs:=av4 ok (.inl e)
theorem an7{ks:List Key}(ok:HOk P w H h)(e:H a=some (.tup (ks.map kV))):(tupleKind (abB P w)).is h ks a:=by
 obtain⟨_,its,r,o,h1,h2,n,h3⟩:=(show ObjOk P w H h a (.tup (ks.map kV)) from ok a _ e)
 exact⟨o,its.toArray,n,h1,h2,h3,by simpa using ac7 r⟩
theorem avN{kvs:List (List Key×V)}(ok:HOk P w H h)(e:Rd H a (.dT kvs)):kvs.length<=sizeLine/\(a==sysModules)=false/\
  ∃xs,KT H kvs xs/\h.DictOfH (tupleKind (abB P w)) a xs:=by
 obtain⟨z,y,xs,r,o,es,ep,h1,h2,h3,h4,h5⟩:=(show ObjOk P w H h a (.dT kvs) from aD0 ok e)
 refine⟨z,y,xs,r,o,es,ep,h1,h2,h3,h4,fun x hx=>?_,h5⟩
 have all:∀{l:List (List Key×V)} {m:List (List Key×Addr×Value)},KT H l m->∀x∈m,(tupleKind (abB P w)).is h x.1 x.2.1:=by
  intro l m q
  induction q with
  |nil=>intro x hx;exact nomatch hx
  |@cons p q ps qs hq t ih=>
   intro x hx
   rcases aY.mp hx with e | hx
   ·subst e
    exact an7 ok (by rw[←hq.1];exact hq.2.1)
   ·exact ih x hx
 exact all r x hx
theorem aIF{kvs:List (List Key×V)}(ok:HOk P w H h)(e:H a=some (.dT kvs)):kvs.length<=sizeLine/\(a==sysModules)=false/\
  ∃xs,KT H kvs xs/\h.DictOfH (tupleKind (abB P w)) a xs:=avN ok (.inl e)
end
noncomputable def DGet(H:Hp)(a:Addr)(y:V)(r:Option V):Prop:=
 (∃kvs k,Rd H a (.dK kvs)/\y=kV k/\r=acJ kvs k)∨∃kvs k b,Rd H a (.dT kvs)/\y=.ref b/\H b=some (.tup (k.map kV))/\r=acJ kvs k
noncomputable def DPut(H:Hp)(a:Addr)(y v:V)(H':Hp):Prop:=
 (∃kvs k,H a=some (.dK kvs)/\y=kV k/\kvs.length<sizeLine/\H'=upd H a (.dK (afU kvs k v)))∨
 ∃kvs k b,H a=some (.dT kvs)/\y=.ref b/\H b=some (.tup (k.map kV))/\kvs.length<sizeLine/\H'=upd H a (.dT (afU kvs k v))
theorem DGet.k{H:Hp}{a:Addr}{kvs:List (Key×V)}{k:Key}(e:H a=some (.dK kvs)):DGet H a (kV k) (acJ kvs k):=.inl ⟨kvs,k,.inl e,rfl,rfl⟩
theorem DGet.t{H:Hp}{a b:Addr}{kvs:List (List Key×V)}{k:List Key}(e:H a=some (.dT kvs))(eb:H b=some (.tup (k.map kV))):DGet H a (.ref b) (acJ kvs k):=.inr ⟨kvs,k,b,.inl e,rfl,eb,rfl⟩
theorem DPut.k{H:Hp}{a:Addr}{kvs:List (Key×V)}{k:Key}{v:V}(e:H a=some (.dK kvs))(hl:kvs.length<sizeLine):DPut H a (kV k) v (upd H a (.dK (afU kvs k v))):=.inl ⟨kvs,k,e,rfl,hl,rfl⟩
theorem DPut.t{H:Hp}{a b:Addr}{kvs:List (List Key×V)}{k:List Key}{v:V}(e:H a=some (.dT kvs))(eb:H b=some (.tup (k.map kV)))(hl:kvs.length<sizeLine):
  DPut H a (.ref b) v (upd H a (.dT (afU kvs k v))):=.inr ⟨kvs,k,b,e,rfl,eb,hl,rfl⟩
section
variable{X:Cx}{pins:List (Addr×Obj)}{σ:St}{H:Hp}{s:Shared}{a:Addr}{y v:V}{u r:Value}{o:Option V}{A:Around}{E:Value->Shared->Prop}
theorem awM{Q:Value->Shared->Prop}(hu:A.units+1<cLine)(I:Inv X pins σ H s)(g:DGet H a y (some v))(ry:RelV y u)(h:∀w' s',Inv X pins σ H s'->RelV v w'->Q w' s'):
  wpAny (model X.prog X.w) A (getItem (.ref a) u) Q E s:=by
 rcases g with ⟨kvs,k,e,ey,l⟩ | ⟨kvs,k,b,e,ey,eb,l⟩
 ·subst ey
  obtain⟨z,hd,vs,rel,dd⟩:=av4 I.hok e
  obtain⟨w',hw,rw'⟩:=RelO.some_of (v:=v) (o:=valueAt vs k) (by rw[l];exact rel.val k)
  exact wpAny_getItem_of (ap8 ry) dd.mapOf hw (h w' _ (I.tok _) rw')
 ·subst ey
  cases (show u=Value.ref b from ry)
  obtain⟨z,hd,xs,rel,dd⟩:=avN I.hok e
  obtain⟨w',hw,rw'⟩:=RelO.some_of (v:=v) (o:=(atKey xs k).map (·.2)) (by rw[l];exact rel.val k)
  obtain⟨p,hp,hp2⟩:=Option.map_eq_some_iff.mp hw
  refine wpAny_getItem_heap (tupleKind_room_in1 hu) (an7 I.hok eb) dd hp ?_
  rw[hp2]
  exact h w' _ (I.tok _) rw'
theorem aC1{Q:Value->Shared->Prop}(hu:A.units+1<cLine)(I:Inv X pins σ H s)(g:DGet H a y o)(ry:RelV y u)(h:∀s',Inv X pins σ H s'->Q (.bool (!o.isSome)) s'):
  wpAny (model X.prog X.w) A (compareOp .NotIn u (.ref a)) Q E s:=by
 rcases g with ⟨kvs,k,e,ey,l⟩ | ⟨kvs,k,b,e,ey,eb,l⟩
 ·subst ey
  obtain⟨z,hd,vs,rel,dd⟩:=av4 I.hok e
  refine wpAny_notIn_of (ap8 ry) hd dd.mapOf ?_
  rw[←(rel.val k).isSome_eq,←l]
  exact h _ (I.tok _)
 ·subst ey
  cases (show u=Value.ref b from ry)
  obtain⟨z,hd,xs,rel,dd⟩:=avN I.hok e
  refine wpAny_notIn_heap (tupleKind_room_in1 hu) (an7 I.hok eb) hd dd ?_
  have q:=(rel.val k).isSome_eq
  rw[Option.isSome_map] at q
  rw[←q,←l]
  exact h _ (I.tok _)
theorem avP{h':Heap}{t':Nat}{ob:HO}(I:Inv X pins σ H s)(mu:Mut (H a))(hs:Heap.SameBut a s.heap h')(he:∃q,h'.get? a=some q)(new:ObjOk X.prog X.w (upd H a ob) h' a ob):
  Inv X pins σ (upd H a ob) {s with heap:=h',toks:=t'}:=
 I.write (x:=a) (e:=a) mu (.inl rfl) (fun b q hb z=>(hs.2 b hb).trans z) he new
theorem aE9{P:Program}{w:World}{H':Hp}{h':Heap}{kvs:List (Key×V)}{vs:List (Key×Value)}(z:kvs.length<=sizeLine)(hd:(a==sysModules)=false)(rel:KV kvs vs)(dd:h'.DictOf (abB P w) a vs):
  ObjOk P w H' h' a (.dK kvs):=⟨z,hd,vs,rel,dd⟩
theorem awE{H':Hp}{Q:Unit->Shared->Prop}(hu:A.units+1<cLine)(I:Inv X pins σ H s)(g:DPut H a y v H')(ry:RelV y u)(rv:RelV v r)(h:∀s',Inv X pins σ H' s'->Q () s'):
  wpAny (model X.prog X.w) A (setItem (.ref a) u r) Q E s:=by
 rcases g with ⟨kvs,k,e,ey,l,eH⟩ | ⟨kvs,k,b,e,ey,eb,l,eH⟩
 ·subst ey eH
  obtain⟨z,hd,vs,rel,dd⟩:=aII I.hok e
  have hz:vs.length<=sizeLine:=by rw[←rel.length];exact z
  have hl:(afU kvs k v).length<=sizeLine:=by have:=aeB kvs k v;omega
  refine wpAny_setItem_pairs (hsz:=hz) (ap8 ry) dd fun h' dd' hs=>h _ ?_
  have he:∃q,h'.get? a=some q:=let ⟨q,_,_,hq,_⟩:=dd';⟨q,hq⟩
  exact avP I (by rw[e];exact True.intro) hs he (aE9 hl hd (rel.put k rv) dd')
 ·subst ey eH
  cases (show u=Value.ref b from ry)
  obtain⟨z,hd,xs,rel,dd⟩:=aIF I.hok e
  have hz:xs.length<=sizeLine:=by rw[←Paired.length rel];exact z
  have hl:(afU kvs k v).length<=sizeLine:=by have:=aeB kvs k v;omega
  refine wpAny_setItem_heap (hsz:=hz) (tupleKind_room_in1 hu) (an7 I.hok eb) dd fun h' dd' hs=>h _ ?_
  obtain⟨q,es,ep,hq,h2,h3,h4,_,h5⟩:=dd'
  refine avP I (by rw[e];exact True.intro) hs ⟨q,hq⟩ ⟨hl,hd,_,(rel.put k eb rv).keeps fun c ys ec=>?_,q,es,ep,hq,h2,h3,h4,h5⟩
  rw[aaF (aHT ec e (fun z=>nomatch z))]
  exact ec
end
section
variable{X:Cx}{pins:List (Addr×Obj)}{σ:St}{H:Hp}{s:Shared}{a:Addr}{kvs:List (Key×V)}{k:Key}{u:Value}{A:Around}{E:Value->Shared->Prop}
end
noncomputable def aA7(i:Expr):Prop:=∀ov iv,subscripted i false ov iv=operate [ov,iv] (getItem ov iv)
theorem av0{prog:Program}{w:World}{A:Around}{E:Value->Shared->Prop}{s:Shared}{env:Env}{value slice:Expr}{pos:Pos}{T id:String}{Q:Value->Shared->Prop}
  (hl:typeLookup (.type T) "__getitem__"=pure (some (.builtin id))) (hs:aA7 slice)
  (h:wpAny (model prog w) A (eval value env) (fun o s₁=>wpAny (model prog w) A (eval slice env) (fun i s₂=>s₂.TypeIs o T/\wpAny (model prog w) A (getItem o i) Q E s₂) E s₁) E s):
  wpAny (model prog w) A (eval (.Subscript value slice pos) env) Q E s:=by
 refine Subscript_ (dX h (fun o s₁ h₁=>dX h₁ (fun i s₂ h₂=>?_) fun _ _ x=>x) fun _ _ x=>x)
 obtain⟨hT,h₂⟩:=h₂
 unfold subscriptTail
 refine dW ?_
 rw[getitemInPython_of_ne hT.not_modules]
 refine dW (wpAny_specialOf hT hl ?_)
 have fin:wpAny (model prog w) A (subscripted slice false o i) (fun r s₃=>wpAny (model prog w) A (letTemporaryGo value o r >>=fun _=>pure r) Q E s₃) E s₂:=by
  rw[hs o i]
  exact wpAny_operating (dX h₂ (fun r s₃ h₃=>dW (wpAny_letTemporaryGo (eJ h₃))) fun _ _ x=>x)
 first
  |exact eJ (dW fin)
  |exact dW (eJ (dW fin))
  |exact dW fin
theorem aqX{X:Cx}{pins:List (Addr×Obj)}{σ:St}{H:Hp}{s:Shared}{a:Addr}{y:V}{o:Option V}(I:Inv X pins σ H s)(g:DGet H a y o):s.TypeIs (.ref a) "dict":=by
 rcases g with ⟨kvs,k,e,_,_⟩ | ⟨kvs,k,b,e,_,_,_⟩
 ·obtain⟨_,_,vs,_,dd⟩:=av4 I.hok e
  exact dd.typeIs
 ·obtain⟨_,_,xs,_,dd⟩:=avN I.hok e
  exact dd.typeIs
noncomputable def aDZ(td ty:TE):TE:=fun σ H Q=>td σ H fun x H1=>ty σ H1 fun y H2=>∃a v,x=.ref a/\DGet H2 a y (some v)/\Q v H2
noncomputable def avH(ty td:TE):TE:=fun σ H Q=>ty σ H fun y H1=>td σ H1 fun x H2=>∃a o,x=.ref a/\DGet H2 a y o/\Q (.bl (!o.isSome)) H2
noncomputable def aDN(td ty tv:TE):TS:=fun D σ H=>tv σ H fun v H1=>td σ H1 fun x H2=>ty σ H2 fun y H3=>∃a H4,x=.ref a/\DPut H3 a y v H4/\D.nx σ H4
section
variable{X:Cx}{o i e value:Expr}{pos pos' tpos:Pos}{td ty tv:TE}
theorem aAZ(hu:X.A.units+1<cLine)(ho:PE X o td)(hi:PE X i ty)(hs:aA7 i):PE X (.Subscript o i pos) (aDZ td ty):=by
 intro pins s σ H Q I h
 refine av0 PySem.F.slot_dict_getitem.lookup hs (thn (ho pins s σ H _ I h) fun u s1 ⟨x,H1,I1,rx,q1⟩=>thn (hi pins s1 σ H1 _ I1 q1) fun iv s2 ⟨y,H2,I2,ry,a,v,ex,g,q2⟩=>?_)
 subst ex
 obtain rfl:u=Value.ref a:=rx
 exact⟨aqX I2 g,awM hu I2 g ry fun w' s3 I3 rw'=>⟨v,H2,I3,rw',q2⟩⟩
theorem axT(hu:X.A.units+1<cLine)(hi:PE X i ty)(ho:PE X o td):PC X .NotIn i o (avH ty td):=by
 intro pins s σ H Q I h
 refine thn (hi pins s σ H _ I h) fun iv s1 ⟨y,H1,I1,ry,q1⟩=>thn (ho pins s1 σ H1 _ I1 q1) fun u s2 ⟨x,H2,I2,rx,a,ov,ex,g,q2⟩=>?_
 subst ex
 obtain rfl:u=Value.ref a:=rx
 exact aC1 hu I2 g ry fun s3 I3=>⟨.bl (!ov.isSome),H2,I3,rfl,q2⟩
theorem aCZ(hu:X.A.units+1<cLine)(ho:PE X o td)(hi:PE X i ty)(hv:PE X value tv)(hs:swapsWith value (some (.Subscript o i pos')) pos.line X.env=pure false):
  PS X (.Assign [.Subscript o i pos'] value pos) (aDN td ty tv):=by
 intro pins s σ H D I h
 refine wpAny_Assign_Subscript (thn (hv pins s σ H _ I h) fun r s1 ⟨v,H1,I1,rv,q1⟩=>thn (ho pins s1 σ H1 _ I1 q1) fun u s2 ⟨x,H2,I2,rx,q2⟩=>thn (hi pins s2 σ H2 _ I2 q2) fun iv s3 ⟨y,H3,I3,ry,a,H4,ex,g,q3⟩=>?_) hs
 subst ex
 obtain rfl:u=Value.ref a:=rx
 exact awE hu I3 g ry rv fun s4 I4=>⟨σ,H4,I4,q3⟩
end
section
variable{X:Cx}{pos:Pos}
end
section
variable{X:Cx}{pins:List (Addr×Obj)}{σ:St}{H:Hp}{s:Shared}{a:Addr}{y d:V}{u r:Value}{o:Option V}{A:Around}{E:Value->Shared->Prop}
end
section
variable{X:Cx}{o e f:Expr}{apos cpos:Pos}{td ty tx:TE}
end
section
variable{X:Cx}{pins:List (Addr×Obj)}{σ:St}{H:Hp}{s:Shared}{a:Addr}{kvs:List (Key×V)}{A:Around}{E:Value->Shared->Prop}
end
section
variable{X:Cx}{pins:List (Addr×Obj)}{σ:St}{H:Hp}{s:Shared}{a:Addr}{y:V}{u:Value}{A:Around}{E:Value->Shared->Prop}
end
section
variable{X:Cx}{k:Nat}{o i kx vx:Expr}{td ty tk tv:TE}{pos:Pos}{keys:List (Option Expr)}{values:List Expr}{trs:List (TE×TE)}
theorem afZ{A:Around}(hr:Room k A):A.units+1<cLine:=by have:=hr.un;omega
theorem eDg(hr:Room k X.A)(ho:E X o td)(hi:E X i ty)(hs:aA7 i:=by intro _ _;rfl):E X (.Subscript o i pos) (aDZ td ty):=⟨aAZ (afZ hr) ho.h hi.h hs⟩
end
noncomputable def Rise(xs:Array Nat):Prop:=xs.toList.Pairwise (·<·)
theorem Rise.lt{xs:Array Nat}(h:Rise xs){i k x y:Nat}(hi:xs[i]? =some x)(hk:xs[k]? =some y)(l:i<k):x<y:=by
 rw[←cD] at hi hk
 obtain⟨h1,e1⟩:=cB.mp hi
 obtain⟨h2,e2⟩:=cB.mp hk
 have:=List.pairwise_iff_getElem.mp h i k h1 h2 l
 rw[e1,e2] at this
 exact this
noncomputable def Cut(xs:Array Nat)(j r:Nat):Prop:=r<=xs.size/\(∀i x,i<r->xs[i]? =some x->x<j)/\∀i x,r<=i->xs[i]? =some x->j<=x
theorem akG{xs:Array Nat}{j:Nat}(hr:Rise xs):∀fuel lo hi:Nat,lo<=hi->hi<=xs.size->hi-lo<=fuel->(∀i x,i<lo->xs[i]? =some x->x<j)->(∀i x,hi<=i->xs[i]? =some x->j<=x)->Cut xs j (SetTable.below.go xs j fuel lo hi)
 |0,lo,hi,h1,h2,h3,a,b=>by
  have e:lo=hi:=by omega
  subst e
  exact⟨h2,a,b⟩
 |f+1,lo,hi,h1,h2,h3,a,b=>by
  unfold SetTable.below.go
  by_cases c:lo<hi
  ·rw[if_pos c]
   have hm:(lo+hi) / 2<xs.size:=by omega
   have em:xs[(lo+hi) / 2]? =some xs[(lo+hi) / 2]:=cR hm
   have eg:xs.getD ((lo+hi) / 2) j=xs[(lo+hi) / 2]:=by rw[Array.getD_eq_getD_getElem?,em];rfl
   dsimp only
   rw[eg]
   by_cases d:xs[(lo+hi) / 2]<j
   ·rw[if_pos d]
    refine akG hr f _ _ (by omega) h2 (by omega) (fun i x hl hx=>?_) b
    by_cases q:i=(lo+hi) / 2
    ·subst q
     rw[em] at hx
     cases hx
     exact d
    ·exact Nat.lt_trans (hr.lt hx em (by omega)) d
   ·rw[if_neg d]
    refine akG hr f _ _ (by omega) (by omega) (by omega) a fun i x hl hx=>?_
    by_cases q:i=(lo+hi) / 2
    ·subst q
     rw[em] at hx
     cases hx
     omega
    ·have:=hr.lt em hx (by omega)
     omega
  ·rw[if_neg c]
   have e:lo=hi:=by omega
   subst e
   exact⟨h2,a,b⟩
theorem ahH{xs:Array Nat}(hr:Rise xs)(j:Nat):Cut xs j (SetTable.below xs j):=
 akG hr _ _ _ (bK _) (aS _) (aS _) (fun _ _ h=>absurd h (cU _)) fun i x h hx=>by
  obtain⟨z,_⟩:=Array.getElem?_eq_some_iff.mp hx
  omega
theorem aC2{xs:Array Nat}{j:Nat}(hr:Rise xs)(h:(xs[SetTable.below xs j]? ==some j)=false):∀x∈xs.toList,x≠j:=fun x hx e=>by
 obtain⟨i,hi,ei⟩:=List.mem_iff_getElem.mp hx
 have e1:xs[i]? =some x:=by rw[←cD,bS hi,ei]
 subst e
 obtain⟨c1,c2,c3⟩:=ahH hr x
 have h1:¬i<SetTable.below xs x:=fun z=>b8 _ (c2 i x z e1)
 by_cases q:i=SetTable.below xs x
 ·rw[←q,e1] at h
  simp at h
 ·have hs:SetTable.below xs x<xs.size:=by
   obtain⟨z,_⟩:=Array.getElem?_eq_some_iff.mp e1
   omega
  have e2:xs[SetTable.below xs x]? =some xs[SetTable.below xs x]:=cR hs
  have:=c3 _ _ (aS _) e2
  have:=hr.lt e2 e1 (by omega)
  omega
theorem azU{α:Type}(xs:Array α)(p:Nat)(x:α):(SetTable.insertAt xs p x).toList=xs.toList.take p++x::xs.toList.drop p:=by
 unfold SetTable.insertAt
 simp[List.extract_eq_drop_take]
 exact dO (by rw[List.length_drop,bW];exact aS _)
theorem ayO{xs:Array Nat}{j:Nat}(hr:Rise xs)(hn:∀x∈xs.toList,x≠j):Rise (SetTable.insertAt xs (SetTable.below xs j) j):=by
 obtain⟨c1,c2,c3⟩:=ahH hr j
 unfold Rise
 rw[azU,List.pairwise_append,List.pairwise_cons]
 have hlow:∀a∈xs.toList.take (SetTable.below xs j),a<j:=fun a ha=>by
  obtain⟨i,hi,e⟩:=List.mem_iff_getElem.mp ha
  rw[List.getElem_take] at e
  rw[dC] at hi
  have h2:i<xs.toList.length:=by omega
  exact c2 i a (by omega) (by rw[←cD,bS h2,e])
 have hhigh:∀b∈xs.toList.drop (SetTable.below xs j),j<b:=fun b hb=>by
  have hb':=List.mem_of_mem_drop hb
  obtain⟨i,hi,e⟩:=List.mem_iff_getElem.mp hb
  rw[List.getElem_drop] at e
  rw[List.length_drop] at hi
  have h2:SetTable.below xs j+i<xs.toList.length:=by omega
  have:=c3 (SetTable.below xs j+i) b (by omega) (by rw[←cD,bS h2,e])
  have:=hn b hb'
  omega
 refine⟨List.Pairwise.sublist (List.take_sublist _ _) hr,⟨hhigh,List.Pairwise.sublist (List.drop_sublist _ _) hr⟩,fun a ha b hb=>?_⟩
 rcases aY.mp hb with rfl | hb
 ·exact hlow a ha
 ·exact Nat.lt_trans (hlow a ha) (hhigh b hb)
theorem auG(n:Nat):Rise (Array.range n):=by
 unfold Rise
 rw[Array.toList_range]
 exact List.pairwise_lt_range
structure Tab(led:Bool)(t:SetTable):Prop where
 rise:Rise t.place
 dum:t.dummies= #[]
 led:t.led=led
theorem arU(j:Nat):SetTable.has #[] j=false:=by
 unfold SetTable.has
 simp
theorem aiK{t:SetTable}{led:Bool}(T:Tab led t){h:Int}:∀(f:Nat) (p:SetTable.Probe) (j:Nat) (d:Option Nat),p.dummy=none->SetTable.probe.go t (fun _=>h+1) h f p=some (.empty j d)->d=none/\(t.place[SetTable.below t.place j]? ==some j)=false
 |0,_,_,_,_,e=>by unfold SetTable.probe.go at e;cases e
 |f+1,p,j,d,hp,e=>by
  unfold SetTable.probe.go at e
  split at e
  ·next hs=>
   cases e
   refine⟨hp,?_⟩
   unfold SetTable.slot at hs
   dsimp only at hs
   split at hs
   ·cases hs
   ·next q=>simpa using q
  ·next hs=>
   unfold SetTable.slot at hs
   dsimp only at hs
   split at hs
   ·cases hs
   ·rw[T.dum,arU] at hs
    cases hs
  ·rw[if_neg (by simp;omega)] at e
   refine aiK T f _ j d ?_ e
   unfold SetTable.advance
   split
   ·exact hp
   ·exact hp
theorem aeQ{led:Bool}{t:SetTable}(T:Tab led t)(n:Nat):Tab led (t.standIn n):=⟨auG n,rfl,T.led⟩
theorem aD6{led:Bool}{t:SetTable}(T:Tab led t)(n:Nat):Tab led (t.orStandIn n):=by
 unfold SetTable.orStandIn
 split
 ·exact T
 ·exact aeQ T n
theorem aA4{led:Bool}{t:SetTable}(T:Tab led t)(es:Array (Int×Value))(h:Int)(x:Value):Tab led (layNew t es h x).2.1:=by
 unfold layNew
 split
 ·next slot wd hf=>
  dsimp only
  refine aD6 ?_ _
  unfold SetTable.freeSlot at hf
  split at hf
  ·next j d hp=>
   obtain⟨rfl,hn⟩:=aiK T _ _ j d rfl hp
   cases hf
   refine⟨ayO T.rise (aC2 T.rise hn),?_,T.led⟩
   show (if SetTable.has t.dummies j=true then _ else t.dummies)=_
   rw[T.dum,arU]
   rfl
  ·cases hf
 ·exact aeQ T _
theorem av6{led:Bool}{t:SetTable}(T:Tab led t)(es:Array (Int×Value))(n:Nat):Tab led (relayAll t es n).2.1:=by
 unfold relayAll
 split
 ·next t' order hl=>
  dsimp only
  split
  ·unfold SetTable.relaid SetTable.laid at hl
   cases ho:SetTable.layClean (SetTable.sizeAbove n-1) (es.map (·.1)) with
   |none=>rw[ho] at hl;cases hl
   |some owner=>
    rw[ho] at hl
    cases hl
    refine⟨?_,rfl,T.led⟩
    unfold Rise
    dsimp only
    have key:∀(l:List Nat),l.Pairwise (·<·)->((l.filterMap fun j=>(owner.getD j none).map (j,·)).map (·.1)).Pairwise (·<·):=fun l hl=>by
     have e:(l.filterMap fun j=>(owner.getD j none).map (j,·)).map (·.1)=l.filter fun j=>(owner.getD j none).isSome:=by
      induction l with
      |nil=>rfl
      |cons a l ih=>
       have ih:=ih (List.pairwise_cons.mp hl).2
       cases q:owner.getD a none with
       |none=>rw[List.filterMap_cons_none (by rw[q];rfl),List.filter_cons_of_neg (by rw[q];simp),ih]
       |some b=>rw[List.filterMap_cons_some (by rw[q];rfl),List.filter_cons_of_pos (by rw[q];rfl),bG,ih]
     rw[e]
     exact List.Pairwise.sublist List.filter_sublist hl
    exact key _ List.pairwise_lt_range
  ·exact aeQ T _
 ·exact aeQ T _
noncomputable def zOf:Value->Int
 |.int z _=>z
 |_=>0
noncomputable def ab6(es:Array (Int×Value)):List Int:=es.toList.map fun e=>zOf e.2
noncomputable def arY(w:World):Bool:= !(w.params.followText "set-order")
structure SetE(prog:Program)(w:World)(es:Array (Int×Value))(t:SetTable):Prop where
 el:ElemsOf (intKind prog w) es.toList
 nd:(ab6 es).Nodup
 sz:es.size<scanBound
 fit:t.fits es.size=true
 tab:Tab (arY w) t
noncomputable abbrev aa0(es:Array (Int×Value))(ep:Nat)(t:SetTable):Obj:={cls:=.type "set",dict:=none,data:=.set es ep t,slots:= #[]}
section
variable{prog:Program}{w:World}{A:Around}{E:Value->Shared->Prop}{s:Shared}{a:Addr}{es:Array (Int×Value)}{ep:Nat}{t:SetTable}{z:Int}{tk:Tok}
theorem ayL{k:Int}{v:Value}(h:(intKind prog w).is k v=true):∃t,v=.int k t:=Value.isInt_shape h
theorem ayC{e:Int×Value}(h:ElemsOf (intKind prog w) es.toList)(he:e∈es.toList):∃t,e.2=.int (zOf e.2) t:=by
 obtain⟨⟨k,hk,_⟩,_⟩:=h e he
 obtain⟨t,e2⟩:=ayL hk
 exact⟨t,by rw[e2];rfl⟩
theorem auV{es es':Array (Int×Value)}(p:es'.toList.Perm es.toList):(ab6 es').Perm (ab6 es):=p.map _
theorem avK(hS:s.heap.get? a=some (aa0 es ep t)){es':Array (Int×Value)}{t':SetTable}:(s.heap.update a (Obj.putSet es' t')).get? a=some (aa0 es' (ep+1) t'):=
 cJ (Obj.putSet es' t') hS rfl
theorem ayM{Q:Bool->Shared->Prop}(hS:s.heap.get? a=some (aa0 es ep t))(X:SetE prog w es t)(room:es.size+1<scanBound)
  (k:∀h' es' ep' t' b,Heap.SameBut a s.heap h'->h'.get? a=some (aa0 es' ep' t')->SetE prog w es' t'->(∀x,x∈ab6 es'↔x∈ab6 es∨x=z)->es'.size<=es.size+1->Q b {s with heap:=h'}):
  wpAny (model prog w) A (setAddHashed a (.int z tk) ((intKind prog w).hash z)) Q E s:=by
 have key:(intKind prog w).is z (.int z tk)=true:=intKind_is _ _ _ _
 unfold setAddHashed setAddHashedIn
 refine d5 (dW (dY hS rfl X.fit ?_))
 dsimp only
 rw[byScan_of (knd:=intKind prog w) (x:=.int z tk) rfl X.sz X.el,if_pos rfl]
 unfold setAddByScan
 refine dW (dW (wpAny_rule (dW (wpAny_setScan_of key hS rfl X.fit X.el ?_))))
 cases hr:List.findIdx? (fun e=>(intKind prog w).is z e.2) es.toList with
 |some j=>
  dsimp only
  obtain⟨hj,pj,_⟩:=List.findIdx?_eq_some_iff_getElem.mp hr
  have hz:z∈ab6 es:=bL.mpr ⟨es.toList[j],List.getElem_mem hj,by obtain⟨t2,e2⟩:=ayL pj;rw[e2];rfl⟩
  refine eJ (eJ ?_)
  exact k s.heap es ep t _ (Heap.SameBut.refl a s.heap) hS X (fun x=>⟨.inl,fun h=>h.elim id fun e=>e▸hz⟩) (Nat.le_succ _)
 |none=>
  dsimp only
  have hz:z∉ab6 es:=fun hm=>by
   obtain⟨e,he,ez⟩:=bL.mp hm
   obtain⟨t2,e2⟩:=ayC X.el he
   have:=List.findIdx?_eq_none_iff.mp hr e he
   rw[e2,ez,intKind_is] at this
   cases this
  have hperm:=layNew_perm t es ((intKind prog w).hash z) (.int z tk)
  have hfits:=layNew_fits t es ((intKind prog w).hash z) (.int z tk)
  have htab:=aA4 X.tab es ((intKind prog w).hash z) (.int z tk)
  generalize layNew t es ((intKind prog w).hash z) (.int z tk)=L at hperm hfits htab ⊢
  obtain⟨es1,t1,wd,gave⟩:=L
  dsimp only at hperm hfits htab ⊢
  rw[Array.toList_push] at hperm
  have el1:ElemsOf (intKind prog w) es1.toList:=(X.el.push key rfl).perm hperm
  have zp:(ab6 es1).Perm (ab6 es++[z]):=by
   have:=hperm.map fun e:Int×Value=>zOf e.2
   rw[bH] at this
   exact this
  have nd1:(ab6 es1).Nodup:=zp.nodup_iff.mpr (List.nodup_append.mpr ⟨X.nd,by simp,fun x hx y hy e=>by
   rw[bE] at hy
   exact hz (hy▸e▸hx)⟩)
  have mem1:∀x,x∈ab6 es1↔x∈ab6 es∨x=z:=fun x=>by rw[zp.mem_iff,bV,bE]
  have sz1:es1.size=es.size+1:=by rw[←bW,hperm.length_eq,bC,bW];rfl
  have X1:∀pl:Bool,SetE prog w es1 {t1 with plain:=pl}:=fun pl=>⟨el1,nd1,by rw[sz1];exact room,hfits,⟨htab.rise,htab.dum,htab.led⟩⟩
  have tail:∀(t2:SetTable),SetE prog w es1 t2->∀(g:Bool->Sem Unit),(∀(b:Bool) (s₁:Shared) (Q':Unit->Shared->Prop),Q' () s₁->wpAny (model prog w) A (g b) Q' E s₁)->∀R:Option Bool->Shared->Prop,
    (∀h' es' ep' t' ,Heap.SameBut a s.heap h'->h'.get? a=some (aa0 es' ep' t')->SetE prog w es' t'->(∀x,x∈ab6 es'↔x∈ab6 es∨x=z)->es'.size<=es.size+1->R (some true) {s with heap:=h'})->
    wpAny (model prog w) A (do
     storeSet a es1 t2
     if (!wd&&t2.tooFull)=true then do
       g (relayAll t2 es1 (SetTable.grown es1.size)).2.2
       storeSet a (relayAll t2 es1 (SetTable.grown es1.size)).1 (relayAll t2 es1 (SetTable.grown es1.size)).2.1
       pure (some true)
      else pure (some true)) R E s:=fun t2 X2 g hg R hR=>by
   refine dW (wpAny_storeSet_of hS rfl ?_ (fits_of_scanBound X2.sz))
   have e1:=avK hS (es':=es1) (t':=t2)
   have b1:=Heap.SameBut.update s.heap a (Obj.putSet es1 t2)
   split
   ·have hp:=relayAll_perm t2 es1 (SetTable.grown es1.size)
    have hf:=relayAll_fits t2 es1 (SetTable.grown es1.size)
    have ht:=av6 X2.tab es1 (SetTable.grown es1.size)
    generalize relayAll t2 es1 (SetTable.grown es1.size)=R2 at hp hf ht ⊢
    obtain⟨es2,t3,gave2⟩:=R2
    dsimp only at hp hf ht ⊢
    have sz2:es2.size=es1.size:=by rw[←bW,hp.length_eq,bW]
    have X3:SetE prog w es2 t3:=⟨X2.el.perm hp,(auV hp).nodup_iff.mpr X2.nd,by rw[sz2];exact X2.sz,hf,ht⟩
    refine dW (hg _ _ _ (dW (wpAny_storeSet_of e1 rfl ?_ (fits_of_scanBound X3.sz))))
    exact eJ (hR _ es2 _ t3 (b1.trans (Heap.SameBut.update _ a _)) (avK (s:={s with heap:=s.heap.update a (Obj.putSet es1 t2)}) e1) X3 (fun x=>by rw[(auV hp).mem_iff];exact mem1 x) (by rw[sz2,sz1];exact aS _))
   ·exact eJ (hR _ es1 _ t2 b1 e1 X2 mem1 (Nat.le_of_eq sz1))
  have fin:∀h' es' ep' t' ,Heap.SameBut a s.heap h'->h'.get? a=some (aa0 es' ep' t')->SetE prog w es' t'->(∀x,x∈ab6 es'↔x∈ab6 es∨x=z)->es'.size<=es.size+1->Q true {s with heap:=h'}:=fun h' es' ep' t'=>k h' es' ep' t' true
  have gw:∀(b:Bool) (s₁:Shared) (Q':Unit->Shared->Prop),Q' () s₁->wpAny (model prog w) A (match b with | true=>rule "set.scan.the-table-gave-way" | false=>pure ()) Q' E s₁:=fun b s₁ Q' hq=>by
   cases b
   ·exact eJ hq
   ·exact wpAny_rule hq
  refine dW (gw gave _ _ ?_)
  have X1':SetE prog w es1 t1:=X1 t1.plain
  split
  ·refine dW ?_
   rw[hashByValue_scannable 8 (show (Value.int z tk).scannable=true from rfl)]
   refine eJ ?_
   exact tail t1 X1' _ gw _ fun h' es' ep' t' b e x m l=>eJ (fin h' es' ep' t' b e x m l)
  ·refine dW (eJ ?_)
   exact tail t1 X1' _ gw _ fun h' es' ep' t' b e x m l=>eJ (fin h' es' ep' t' b e x m l)
end
section
variable{prog:Program}{w:World}{A:Around}{R:Result->Shared->Prop}{I:Addr}{fp wr:List Addr}{G:Array GenState->Array GenState->Prop}{n:Nat}{P:Nat->Value->Prop}{St:Nat->Shared->Prop}
theorem arV{args:Args}{s:Shared}(h:wpAny (model prog w) A.in1 (Builtin.«set.update.loop» args) (fun x s'=>match x with | .done q=>R (.ok q) s' | .again c=>c.quiet=true/\codeAny (model prog w) A c R s') (fun x s'=>R (.error x) s') s):codeAny (model prog w) A (.builtin "set.update.loop" args) R s:=
 codeAny_builtin F.entry_set_update_loop (by rw[Around.under_plainId F.plain_set_update_loop args];exact h)
theorem awX(W:WalksS prog w A.in1 I fp wr G n P St){S:Addr}(out:S∉fp){val:Nat->Int}(hval:∀i v,P i v->∃t,v=.int (val i) t)(hb:n+1<scanBound):
  ∀(k i:Nat) (s:Shared) (es:Array (Int×Value)) (ep:Nat) (t:SetTable),n-i=k->i<=n->St i s->s.heap.get? S=some (aa0 es ep t)->SetE prog w es t->(∀x,x∈ab6 es↔∃j,j<i/\val j=x)->es.size<=i->
   (∀s' es' ep' t',Moved (S::wr) G s s'->s'.heap.get? S=some (aa0 es' ep' t')->SetE prog w es' t'->(∀x,x∈ab6 es'↔∃j,j<n/\val j=x)->R (.ok (.ret .none)) s')->
   codeAny (model prog w) A (.builtin "set.update.loop" {pos:=[.ref S,.ref I]}) R s:=by
 have nw:S∉wr:=fun z=>out (W.sub _ z)
 have sub:∀b∈wr,b∈S::wr:=fun b hb=>bM _ hb
 intro k
 induction k with
 |zero=>
  intro i s es ep t hk hi st hS X hm hz hR
  obtain rfl:i=n:=by omega
  refine arV ?_
  unfold Builtin.«set.update.loop»
  refine dW (W.done s _ _ st fun s' mv=>?_)
  exact eJ (hR s' es ep t (mv.mono sub) (mv.heap S _ nw hS) X hm)
 |succ k ih=>
  intro i s es ep t hk hi st hS X hm hz hR
  have lt:i<n:=by omega
  refine arV ?_
  unfold Builtin.«set.update.loop»
  refine dW (W.item i s _ _ lt st fun v s1 hP st1 mv=>?_)
  obtain⟨tk,rfl⟩:=hval i v hP
  have S1:=mv.heap S _ nw hS
  unfold setAdd
  refine dW (d5 (d5 (dW ((intKind prog w).pyHash (k:=val i) (intKind_is _ _ _ _) (ayM (s:={s1 with toks:=s1.toks+1}) S1 X (by omega) fun h' es' ep' t' b sb S2 X2 m2 z2=>?_)))))
  refine eJ ⟨plainId_quiet F.plain_set_update_loop _,ih (i+1) _ es' ep' t' (by omega) lt (W.frame _ s1 _ _ st1 (Nat.le_succ _) fun c hc o e=>?_) S2 X2 (fun x=>?_) (by omega) fun s2 es2 ep2 t2 mv2 S3 X3 m3=>?_⟩
  ·rw[sb.2 c fun z=>out (z▸hc)]
   exact e
  ·rw[m2,hm]
   constructor
   ·rintro (⟨j,hj,e⟩ | rfl)
    ·exact⟨j,by omega,e⟩
    ·exact⟨i,by omega,rfl⟩
   ·rintro⟨j,hj,e⟩
    by_cases c:j=i
    ·subst c;exact .inr e.symm
    ·exact .inl ⟨j,by omega,e⟩
  ·refine hR s2 es2 ep2 t2 (Moved.trans W.gtrans ((mv.mono sub).then_heap (Nat.le_succ _) fun c o hc e=>?_) mv2) S3 X3 m3
   rw[sb.2 c fun z=>hc (z▸bP)]
   exact e
end
section
variable{prog:Program}{w:World}{A:Around}{E:Value->Shared->Prop}{s:Shared}
noncomputable abbrev apF(w:World):Obj:=aa0 #[] 0 (.fresh 0 0 (arY w))
theorem aJU:SetE prog w #[] (.fresh 0 0 (arY w)):=⟨fun _ h=>by simp at h,by simp[ab6],by decide,rfl,⟨by unfold Rise;simp[SetTable.fresh],rfl,rfl⟩⟩
theorem ayE(a:Value){Q₁:Value->Shared->Prop}(h:Q₁ (.ref s.heap.objs.size) {s with heap:=s.heap.push (apF w)}):codeAny (model prog w) A (.call (.builtin "set.__new__") ⟨[.type "set",a],[]⟩) (wants Q₁ E) s:=by
 have own:=sub_set_self
 refine codeAny_of_tree (dW (m:=checkBuiltinCall "set.__new__" {pos:=[.type "set",a]}) (wpAny_of_eq (F.newCall_set_1 a) (eJ ⟨plainId_quiet F.plain_set_new _,codeAny_builtin F.entry_set_new ?_⟩)))
 rw[Around.under_plainId F.plain_set_new {pos:=[.type "set",a]}]
 simp only[Builtin.«set.__new__»,Builtin.Frozenset.newClass]
 obtain⟨h0,g0,d0,t0,o0⟩:=s
 wp_walk
 refine wpAny_askSetting (eJ ?_)
 dsimp only
 simp only[newObj]
 exact dW (wpAny_alloc (eJ (eJ h)))
set_option maxHeartbeats 3200000 in
theorem axS{l:Addr}{items:Array Value}{ns:List Int}{Q:Value->Shared->Prop}(hh:A.handled=none)(hl:s.heap.IsList l items)(hi:IntsAre items.toList ns)(hb:items.size+1<scanBound)
  (k:∀(h':Heap) (tk:Nat) (es:Array (Int×Value)) (ep:Nat) (t:SetTable),h'.get? s.heap.objs.size=some (aa0 es ep t)->SetE prog w es t->(∀x,x∈ab6 es↔x∈ns)->(∀b o,s.heap.get? b=some o->h'.get? b=some o)->Q (.ref s.heap.objs.size) {s with heap:=h',toks:=tk}):
  wpAny (model prog w) A (call (.type "set") [.ref l]) Q E s:=by
 obtain⟨⟨c0,tl0,m0⟩,m1,m2,m3,m4,m5⟩:=And.intro F.called_set.mro (And.intro F.called_set.made (And.intro F.called_set.sub (And.intro F.called_set.notType (And.intro F.called_set.canCreate (F.typeCall_set_1 (.ref l))))))
 refine wpAny_call (codeAny_of_tree (show wpAny _ _ (callAny (.type "set") _) _ _ _ from eJ ⟨Code.quiet_builtin _ (by decide +kernel),codeAny_builtin F.entry_type_call ?_⟩))
 rw[Around.under_plain (weight_type_call_type "set" [.ref l] []) (by rfl)]
 repeat any_goals (first | assumption | wp_step)
 refine d6 (ayE (.ref l) (E:=E) (Q₁:=fun obj s₁=>obj=.ref s.heap.objs.size/\s₁={s with heap:=s.heap.push (apF w)}) ⟨rfl,rfl⟩) fun r s₁ hr=>?_
 cases r with
 |error e=>exact hr
 |ok fl=>
  cases fl with
  |ret obj=>
   obtain⟨rfl,rfl⟩:=hr
   have hS:(s.heap.push (apF w)).get? s.heap.objs.size=some (apF w):=bD _ rfl
   have hT:Shared.TypeIs {s with heap:=s.heap.push (apF w)} (.ref s.heap.objs.size) "set":=⟨_,hS,rfl⟩
   obtain⟨i1,i2⟩:=And.intro F.called_set.init.lookup (F.called_set.init.bind (.ref s.heap.objs.size))
   repeat any_goals (first | assumption | wp_step)
   refine d6 (codeAny_call_builtin (R:=wants (fun r s₂=>r=.none/\∃h' tk es ep t,s₂={s with heap:=h',toks:=tk}/\h'.get? s.heap.objs.size=some (aa0 es ep t)/\SetE prog w es t/\(∀x,x∈ab6 es↔x∈ns)/\(∀b o,s.heap.get? b=some o->h'.get? b=some o)) E) F.called_set.init.plain F.entry_set_init (check_set_init_1 hT ?_)) fun r₂ s₂ hr₂=>?_
   ·obtain⟨⟨oc,od,odt,osl⟩,hol,hcl,nl,hdl⟩:=hl
    cases hcl
    cases hdl
    have hol':=aW (apF w) hol
    have s1:=F.sub_list_set
    have s2:=F.sub_list_frozenset
    have ne:(Value.type "list"==Value.type "dict")=false:=by decide
    have hl1:(s.heap.push (apF w)).IsList l items:=⟨_,hol',rfl,nl,rfl⟩
    simp only[Builtin.«set.__init__»,noKeywords,Builtin.Frozenset.updateFrom]
    generalize hPI:pyIter=PI
    wp_walk
    subst hPI
    refine wpAny_pyIter_list hl1 (dW (wpAny_runValue ?_))
    have ll:l<s.heap.objs.size:=aV hol
    have h3:A.in1.in1.in1.handled=none:=by simp[hh]
    have nI:l≠(s.heap.push (apF w)).objs.size:=by rw[cH];exact aX (cM ll)
    have out:s.heap.objs.size∉[(s.heap.push (apF w)).objs.size,l]:=by
     rw[cH]
     simp only[aY,cA,or_false,not_or]
     exact⟨aX (cY _),Nat.ne_of_gt ll⟩
    have val:∀(i:Nat) (v:Value),items[i]? =some v->∃t,v=.int ((fun i=>ns.getD i 0) i) t:=fun i v hv=>IntsAre.int_at hi i v (by rw[cD];exact hv)
    have ln:items.size=ns.length:=by rw[←bW];exact IntsAre.length hi
    refine awX ((Walks.list h3 _ l nI items).toS) out val hb (items.size-0) 0 _ #[] 0 (.fresh 0 0 (arY w)) (by omega) (bK _) ⟨⟨_,bD _ rfl,rfl,rfl⟩,hl1.push _⟩ (aW _ hS) aJU (fun x=>⟨fun z=>by simp[ab6] at z,fun ⟨j,hj,_⟩=>absurd hj (cU _)⟩) (aS _) fun s' es ep t mv S' X' m'=>?_
    obtain⟨h',g',d',tk',os'⟩:=s'
    have eg:g'=s.gens:=mv.gens
    have ed:d'=s.drawn:=mv.drawn
    have eo:os'=s.os:=mv.os
    subst eg;subst ed;subst eo
    refine eJ (eJ ⟨rfl,h',tk',es,ep,t,rfl,S',X',fun x=>?_,fun b o e=>?_⟩)
    ·rw[m' x,ln]
     constructor
     ·rintro⟨j,hj,rfl⟩
      have:ns.getD j 0=ns[j]:=by rw[dP,bS hj];rfl
      rw[this]
      exact List.getElem_mem hj
     ·intro hx
      obtain⟨j,hj,e⟩:=List.mem_iff_getElem.mp hx
      exact⟨j,hj,by rw[dP,bS hj];exact e⟩
    ·have lb:=aV e
     refine mv.heap b o ?_ (aW _ (aW _ e))
     rw[cH]
     simp only[aY,cA,or_false,not_or]
     exact⟨aX lb,aX (cM lb)⟩
   ·cases r₂ with
    |error e=>exact hr₂
    |ok fl₂=>
     cases fl₂ with
     |ret r=>
      obtain⟨rfl,h',tk,es,ep,t,rfl,S',X',m',k'⟩:=hr₂
      repeat any_goals (first | assumption | wp_step)
      exact k h' tk es ep t S' X' m' k'
     |_=>exact hr₂.elim
  |_=>exact hr.elim
end
theorem afV{α:Type}:∀(l:List α) (i:Nat) (h:i<l.length),(l[i]::l.eraseIdx i).Perm l
 |[],i,h=>by cases h
 |x::r,0,h=>List.Perm.refl _
 |x::r,i+1,h=>(List.Perm.swap x (r[i]'(by simpa using h)) _).trans (List.Perm.cons x (afV r i (by simpa using h)))
theorem auL{α:Type}(next:Nat->Nat):∀(f k:Nat) (left:List α) (out:Array α),left.length=f->(pickOrder.go next f k left out).toList.Perm (out.toList++left)
 |0,k,left,out,h=>by
  rw[List.length_eq_zero_iff.mp h,cI]
  exact List.Perm.refl _
 |f+1,k,left,out,h=>by
  have hl:next k%left.length<left.length:=Nat.mod_lt _ (by omega)
  unfold pickOrder.go
  rw[bS hl]
  dsimp only
  refine (auL next f (k+1) (left.eraseIdx (next k%left.length)) (out.push left[next k%left.length]) (by rw[List.length_eraseIdx_of_lt hl,h];rfl)).trans ?_
  rw[Array.toList_push,List.append_assoc]
  exact List.Perm.append_left _ (afV _ _ hl)
theorem aw4{α:Type}(next:Nat->Nat)(xs:Array α):(pickOrder next xs).toList.Perm xs.toList:=by
 have:=auL next xs.size 0 xs.toList #[] (bW)
 rw[show (#[]:Array α).toList=[] from rfl,List.nil_append] at this
 exact this
section
variable{M:Model}{A:Around}{E:Value->Shared->Prop}{s:Shared}
theorem aoW{src:Source}{n:Nat}{Q:Nat->Shared->Prop}(hn:n≠0)(h:∀i d,i<n->Q i {s with drawn:=d}):wpAny M A (choose src n) Q E s:=fun Γ p hΓ=>⟨hn,h _ _ (Nat.mod_lt _ (Nat.pos_of_ne_zero hn))⟩
theorem amQ{α:Type}:∀(n:Nat) (xs:List α) (s:Shared) (Q:List α->Shared->Prop),xs.length=n->(∀ys d,ys.Perm xs->Q ys {s with drawn:=d})->wpAny M A (drawOrder n xs) Q E s
 |0,xs,s,Q,hn,h=>by
  rw[List.length_eq_zero_iff.mp hn] at h ⊢
  exact eJ (h [] s.drawn (List.Perm.refl _))
 |n+1,[],s,Q,hn,h=>by cases hn
 |n+1,x::r,s,Q,hn,h=>by
  unfold drawOrder
  refine dW (aoW (by simp) fun i d hi=>?_)
  rw[bS hi]
  refine dW (amQ n _ _ _ (by rw[List.length_eraseIdx_of_lt hi,hn];rfl) fun ys d2 hp=>eJ (h _ d2 ?_))
  exact (List.Perm.cons _ hp).trans (afV _ _ hi)
end
theorem alE:entryFor table "set.__iter__"=some Builtin.«frozenset.__iter__»:=entryFor_alias (id':="frozenset.__iter__") (by decide +kernel) (by decide +kernel) (by decide +kernel) (by kernel_rfl)
theorem slot_set_itn:Slot "set_iterator" "__next__" "set_iterator.__next__":=
 .of (owner:="set_iterator") (n:="__next__") (by rw[typeLookup_type,builtinLookup_eq_fast];kernel_rfl) (by decide +kernel) (by decide +kernel) (by decide +kernel)
  (by first | exact .inl (by decide +kernel) | exact .inr (by decide +kernel)) (by rw[isSubtype_type];kernel_rfl)
theorem afJ:entryFor table "set_iterator.__next__"=some Builtin.«set_iterator.__next__»:=entryFor_of_tree (by kernel_rfl)
theorem agL(a:Value):argsOk "set_iterator.__next__" ⟨[a],[]⟩:=by unfold argsOk;kernel_rfl
noncomputable abbrev sit(first:Value)(i:Nat)(a:Addr)(n ep:Nat):Obj:={cls:=.type "set_iterator",dict:=none,data:=.fields #[first,rawInt i,.ref a,rawInt n,rawInt ep],slots:= #[]}
section
variable{prog:Program}{w:World}{A:Around}{E:Value->Shared->Prop}{s:Shared}{a I:Addr}{es:Array (Int×Value)}{ep:Nat}{t:SetTable}
noncomputable def adS(w:World)(a:Addr)(es:Array (Int×Value))(ep:Nat):List Value:=if w.params.followText "set-order" then (pickOrder (w.params.setOrder a ep) es).toList.map (·.2) else es.toList.map (·.2)
noncomputable def aa9(w:World)(t:SetTable)(i:Nat):Nat:=if w.params.followText "set-order" then 0 else match i with
 |0=>0
 |i+1=>t.place.getD i 0+1
theorem ay0:aa9 w t 0=0:=by unfold aa9;split<;>rfl
theorem azH{i:Nat}(bt:w.params.followText "set-order"=false):aa9 w t (i+1)=t.place.getD i 0+1:=by unfold aa9;rw[bt,if_neg (by simp)]
theorem ord_perm:(adS w a es ep).Perm (es.toList.map (·.2)):=by
 unfold adS
 split
 ·exact (aw4 _ _).map _
 ·exact List.Perm.refl _
theorem aoJ:(adS w a es ep).length=es.size:=by rw[ord_perm.length_eq,aU,bW]
theorem afT{Q:Bool->Shared->Prop}(h:Q (w.params.followText "set-order") s):wpAny (model prog w) A setsByText Q E s:=by
 unfold setsByText
 exact dW (wpAny_askSetting (eJ h))
theorem ax9{Q:Option (Value×Nat)->Shared->Prop}{i:Nat}(hS:s.heap.get? a=some (aa0 es ep t))(X:SetE prog w es t)(nd:w.params.followText "set-order"=true∨(!t.plain&&decide (es.size>1))=false)(hi:i<=es.size)
  (h:Q ((adS w a es ep)[i]?.map fun v=>(v,aa9 w t (i+1))) s):wpAny (model prog w) A (setNext a (aa9 w t i) i ep) Q E s:=by
 unfold setNext
 refine dW (dY hS rfl X.fit ?_)
 dsimp only
 refine dW (afT ?_)
 cases bt:w.params.followText "set-order" with
 |true=>
  rw[if_pos rfl,if_neg (by simp)]
  refine dW ?_
  unfold setWalk
  refine dW (dY hS rfl X.fit ?_)
  dsimp only
  refine dW (afT ?_)
  rw[bt,if_pos rfl]
  refine dW (wpAny_askSetting (eJ (eJ ?_)))
  have e:adS w a es ep=(pickOrder (w.params.setOrder a ep) es).toList.map (·.2):=by unfold adS;rw[bt,if_pos rfl]
  rw[e,bA,cD,Option.map_map] at h
  have e2:aa9 w t (i+1)=aa9 w t i:=by unfold aa9;rw[bt,if_pos rfl,if_pos rfl]
  rw[e2] at h
  exact h
 |false=>
  have nd':(!t.plain&&decide (es.size>1))=false:=nd.resolve_left (by rw[bt];simp)
  have led:t.led=true:=by rw[X.tab.led];unfold arY;rw[bt];rfl
  have fit:t.place.size=es.size:=by
   have:=X.fit
   simp only[SetTable.fits,bF,beq_iff_eq] at this
   exact this.1
  rw[if_neg (by simp)]
  change wpAny _ _ (if (!t.plain&&decide (es.size>1))=true then _ else _) _ _ _
  rw[if_neg (by rw[nd'];simp)]
  refine dW ?_
  change wpAny _ _ (if (!t.led&& !es.isEmpty)=true then _ else _) _ _ _
  rw[if_neg (by rw[led];simp)]
  refine eJ (eJ ?_)
  have e:adS w a es ep=es.toList.map (·.2):=by unfold adS;rw[bt,if_neg (by simp)]
  have cut:SetTable.below t.place (aa9 w t i)=i:=by
   obtain⟨c1,c2,c3⟩:=ahH X.tab.rise (aa9 w t i)
   have at':∀k,k<t.place.size->t.place[k]? =some (t.place.getD k 0):=fun k hk=>by rw[Array.getD_eq_getD_getElem?,cR hk];rfl
   cases i with
   |zero=>
    rcases Nat.eq_zero_or_pos (SetTable.below t.place (aa9 w t 0)) with z | z
    ·exact z
    ·have:=c2 0 _ z (at' 0 (by omega))
     rw[ay0] at this
     exact absurd this (cU _)
   |succ i=>
    have e0:aa9 w t (i+1)=t.place.getD i 0+1:=azH bt
    have hi':i<t.place.size:=by omega
    have l1:¬SetTable.below t.place (aa9 w t (i+1))<=i:=fun z=>by
     have:=c3 i _ z (at' i hi')
     omega
    have l2:¬i+1<SetTable.below t.place (aa9 w t (i+1)):=fun z=>by
     have h1:i+1<t.place.size:=by omega
     have:=c2 (i+1) _ z (at' (i+1) h1)
     have:=X.tab.rise.lt (at' i hi') (at' (i+1) h1) (cY i)
     omega
    omega
  rw[cut]
  rw[e,bA,cD,Option.map_map] at h
  by_cases c:i<es.size
  ·rw[cR c,cR (show i<t.place.size by omega)]
   rw[cR c] at h
   have e2:aa9 w t (i+1)=t.place[i]'(by omega)+1:=by
    rw[azH bt,Array.getD_eq_getD_getElem?,cR (show i<t.place.size by omega)]
    rfl
   rw[e2] at h
   exact h
  ·rw[dQ (by omega),dQ (by omega)]
   rw[dQ (by omega)] at h
   exact h
noncomputable abbrev aOJ:Obj:={cls:=.type "tuple",data:=.seq #[]}
noncomputable abbrev aM9(a:Addr):Obj:={cls:=.type "StopIteration",data:=.fields (#[Value.ref a,.none,.none,.none,.bool false,.none]++ownMembersOf (.type "StopIteration") [])}
theorem anE{β:Type}{Q:β->Shared->Prop}(hh:A.handled=none)(h:E (.ref (s.heap.push aOJ).objs.size) {s with heap:=(s.heap.push aOJ).push (aM9 s.heap.objs.size)}):
  wpAny (model prog w) A (do raiseNew (←newExc (.type "StopIteration") []):Sem β) Q E s:=by
 refine dW ?_
 simp only[newExc,newTuple]
 refine dW (dU (dW (m:=firstArgMember _ _) (wpAny_of_eq (a:=Value.none) (by simp only[firstArgMember];rfl) (dU ?_ (by size_fits)))) (by size_fits))
 unfold raiseNew
 refine dW (wpAny_handled ?_)
 rw[hh]
 exact dW (eJ (wpAny_throw h))
theorem acN{f:Value}{i n ep:Nat}(h:s.heap.get? I=some (sit f i a n ep)):s.TypeIs (.ref I) "set_iterator":=⟨_,h,rfl⟩
theorem ap1{i:Nat}{Q:Option Value->Shared->Prop}(hh:A.handled=none)(ne:a≠I)(hI:s.heap.get? I=some (sit (rawInt (aa9 w t i)) i a es.size ep))(hS:s.heap.get? a=some (aa0 es ep t))(X:SetE prog w es t)
  (nd:w.params.followText "set-order"=true∨(!t.plain&&decide (es.size>1))=false) (hi:i<=es.size)
  (k:∀v h',(adS w a es ep)[i]? =some v->h'.get? I=some (sit (rawInt (aa9 w t (i+1))) (i+1) a es.size ep)->(∀b o,b≠I->s.heap.get? b=some o->h'.get? b=some o)->Q (some v) {s with heap:=h'})
  (k0:(adS w a es ep)[i]? =none->∀h',(∀b o,b≠I->s.heap.get? b=some o->h'.get? b=some o)->Q none {s with heap:=h'}):wpAny (model prog w) A (pyNext (.ref I)) Q E s:=by
 unfold pyNext
 refine dW (wpAny_attempt (wpAny_callSpecial?_slot (name:=Str.ofString "__next__") (acN hI) slot_set_itn (wpAny_call_entry slot_set_itn (acN hI) afJ ?_ (agL _))))
 unfold Builtin.«set_iterator.__next__»
 refine dW (m:=slotArgs _ _ _) (eJ ?_)
 refine dW (wpAny_fieldsOf hI rfl ?_)
 simp only[rawInt]
 unfold setEntries
 refine dW (dW (dY hS rfl X.fit (eJ ?_)))
 rw[if_neg (by simp)]
 simp only[bQ]
 refine dW (ax9 hS X nd hi ?_)
 cases ho:(adS w a es ep)[i]? with
 |some v=>
  dsimp only[Option.map]
  refine dW (wpAny_setField hI rfl (show 0<5 by decide) ?_)
  have h1:=cJ (Obj.mapFields (·.setIfInBounds 0 (Value.int (aa9 w t (i+1)) 0))) hI rfl
  refine dW (wpAny_setField h1 rfl (show 1<5 by decide) ?_)
  have h2:=cJ (Obj.mapFields (·.setIfInBounds 1 (Value.int ((i:Int)+1) 0))) h1 rfl
  refine eJ ⟨v,rfl,eJ (k v _ ho ?_ fun b o nb e=>?_)⟩
  ·rw[h2]
   show some _=some _
   congr 1
  ·rw[b9 _ _ (Ne.symm nb),b9 _ _ (Ne.symm nb)]
   exact e
 |none=>
  dsimp only[Option.map]
  refine dW (wpAny_setField hI rfl (show 2<5 by decide) (anE hh ?_))
  refine dW (wpAny_isInstance (T:="StopIteration") (b:=true) ⟨_,bD _ rfl,rfl⟩ isSubtype_stop (eJ (k0 ho _ fun b o nb e=>?_)))
  refine aW _ (aW _ ?_)
  rw[b9 _ _ (Ne.symm nb)]
  exact e
theorem amK{i:Nat}{T:Addr}{ys:List Nat}{Q:Option Value->Shared->Prop}(hh:A.handled=none)(hI:s.heap.get? I=some (sit (.ref T) i a es.size ep))(hT:s.heap.get? T=some {cls:=.type "tuple",data:=.seq (ys.map fun (y:Nat)=>rawInt y).toArray})(hS:s.heap.get? a=some (aa0 es ep t))(X:SetE prog w es t)
  (hy:∀y∈ys,y<es.size)
  (k:∀y v h',ys[i]? =some y->(es.toList.map (·.2))[y]? =some v->h'.get? I=some (sit (.ref T) (i+1) a es.size ep)->(∀b o,b≠I->s.heap.get? b=some o->h'.get? b=some o)->Q (some v) {s with heap:=h'})
  (k0:ys[i]? =none->∀h',(∀b o,b≠I->s.heap.get? b=some o->h'.get? b=some o)->Q none {s with heap:=h'}):wpAny (model prog w) A (pyNext (.ref I)) Q E s:=by
 unfold pyNext
 refine dW (wpAny_attempt (wpAny_callSpecial?_slot (name:=Str.ofString "__next__") (acN hI) slot_set_itn (wpAny_call_entry slot_set_itn (acN hI) afJ ?_ (agL _))))
 unfold Builtin.«set_iterator.__next__»
 refine dW (m:=slotArgs _ _ _) (eJ (dW (wpAny_fieldsOf hI rfl ?_)))
 simp only[rawInt]
 unfold setEntries
 refine dW (dW (dY hS rfl X.fit (eJ ?_)))
 rw[if_neg (by simp)]
 refine dW (wpAny_seqItems hT rfl ?_)
 have eg:((ys.map fun (y:Nat)=>rawInt y).toArray)[(i:Int).toNat]? =(ys[i]?).map fun (y:Nat)=>rawInt y:=by
  rw[bQ,List.getElem?_toArray,bA]
 dsimp only
 rw[eg]
 cases ho:ys[i]? with
 |some y=>
  have hlt:=hy y (bI ho)
  have ev:(es.toList.map (·.2))[y]? =some es[y].2:=by rw[bA,cD,cR hlt];rfl
  dsimp only[Option.map,rawInt]
  unfold setNextDrawn
  refine dW (dW (dY hS rfl X.fit ?_))
  dsimp only
  rw[if_neg (by simp)]
  simp only[bQ]
  rw[cR hlt]
  refine eJ (dW (wpAny_setField hI rfl (show 1<5 by decide) ?_))
  have h2:=cJ (Obj.mapFields (·.setIfInBounds 1 (Value.int ((i:Int)+1) 0))) hI rfl
  refine eJ ⟨es[y].2,rfl,eJ (k y _ _ ho ev ?_ fun b o nb e=>?_)⟩
  ·rw[h2]
   show some _=some _
   congr 1
  ·rw[b9 _ _ (Ne.symm nb)]
   exact e
 |none=>
  dsimp only[Option.map]
  refine dW (wpAny_setField hI rfl (show 0<5 by decide) ?_)
  have h1:=cJ (Obj.mapFields (·.setIfInBounds 0 (Value.int 0 0))) hI rfl
  refine dW (wpAny_setField h1 rfl (show 2<5 by decide) (anE hh ?_))
  refine dW (wpAny_isInstance (T:="StopIteration") (b:=true) ⟨_,bD _ rfl,rfl⟩ isSubtype_stop (eJ (k0 ho _ fun b o nb e=>?_)))
  refine aW _ (aW _ ?_)
  rw[b9 _ _ (Ne.symm nb),b9 _ _ (Ne.symm nb)]
  exact e
theorem agP:Slot "set_iterator" "__iter__" "set_iterator.__iter__":=
 .of (owner:="set_iterator") (n:="__iter__") (by rw[typeLookup_type,builtinLookup_eq_fast];kernel_rfl) (by decide +kernel) (by decide +kernel) (by decide +kernel)
  (by first | exact .inl (by decide +kernel) | exact .inr (by decide +kernel)) (by rw[isSubtype_type];kernel_rfl)
theorem alS:entryFor table "set_iterator.__iter__"=some Builtin.«dict_keyiterator.__iter__»:=entryFor_alias (id':="dict_keyiterator.__iter__") (by decide +kernel) (by decide +kernel) (by decide +kernel) (by kernel_rfl)
theorem anY(a:Value):argsOk "set_iterator.__iter__" ⟨[a],[]⟩:=by unfold argsOk;kernel_rfl
theorem aqA{f:Value}{i n:Nat}{Q:Value->Shared->Prop}(hI:s.heap.get? I=some (sit f i a n ep))(h:Q (.ref I) s):wpAny (model prog w) A (pyIter (.ref I)) Q E s:=by
 refine wpAny_pyIter_slot (acN hI) agP (wpAny_call_entry agP (acN hI) alS ?_ (anY _))
 unfold Builtin.«dict_keyiterator.__iter__»
 exact dW (m:=slotArgs _ _ _) (eJ (eJ ⟨_,rfl,"set_iterator",_,acN hI,slot_set_itn.lookup,h⟩))
theorem axI(hh:A.handled=none)(ne:a≠I)(X:SetE prog w es t)(nd:w.params.followText "set-order"=true∨(!t.plain&&decide (es.size>1))=false):
  Walks prog w A I [I,a] [I] es.size (fun i v=>(adS w a es ep)[i]? =some v) (fun i h=>i<=es.size/\h.get? I=some (sit (rawInt (aa9 w t i)) i a es.size ep)/\h.get? a=some (aa0 es ep t)) where
 sub:=fun b hb=>by simp at hb;simp[hb]
 frame:=fun i h h' st k=>⟨st.1,k I (by simp) _ st.2.1,k a (by simp) _ st.2.2⟩
 item:=fun i s Q E hi st k=>ap1 hh ne st.2.1 st.2.2 X nd st.1 (fun v h' ho hI' kp=>k v h' s.toks ho ⟨hi,hI',kp a _ ne st.2.2⟩ fun b o nb e=>kp b o (fun z=>nb (by simp[z])) e) fun ho=>by
  have:=List.getElem?_eq_none_iff.mp ho
  have hl:=aoJ (w:=w) (a:=a) (es:=es) (ep:=ep)
  omega
 done:=fun s Q E st k=>ap1 hh ne st.2.1 st.2.2 X nd st.1 (fun v h' ho=>by
  obtain⟨z,_⟩:=cB.mp ho
  have hl:=aoJ (w:=w) (a:=a) (es:=es) (ep:=ep)
  omega) fun _ h' kp=>k h' s.toks fun b o nb e=>kp b o (fun z=>nb (by simp[z])) e
 self:=fun i s Q E st k=>aqA st.2.1 k
theorem auB{T:Addr}{ys:List Nat}(hh:A.handled=none)(ne:a≠I)(nT:T≠I)(X:SetE prog w es t)(hp:ys.Perm (List.range es.size)):
  Walks prog w A I [I,a,T] [I] es.size (fun i v=>∃y,ys[i]? =some y/\(es.toList.map (·.2))[y]? =some v) (fun i h=>h.get? I=some (sit (.ref T) i a es.size ep)/\h.get? a=some (aa0 es ep t)/\h.get? T=some {cls:=.type "tuple",data:=.seq (ys.map fun (y:Nat)=>rawInt y).toArray}) where
 sub:=fun b hb=>by simp at hb;simp[hb]
 frame:=fun i h h' st k=>⟨k I (by simp) _ st.1,k a (by simp) _ st.2.1,k T (by simp) _ st.2.2⟩
 item:=fun i s Q E hi st k=>amK hh st.1 st.2.2 st.2.1 X (fun y hy=>by simpa using hp.mem_iff.mp hy) (fun y v h' h1 h2 hI' kp=>k v h' s.toks ⟨y,h1,h2⟩ ⟨hI',kp a _ ne st.2.1,kp T _ nT st.2.2⟩ fun b o nb e=>kp b o (fun z=>nb (by simp[z])) e) fun ho=>by
  have:=List.getElem?_eq_none_iff.mp ho
  have hl:=hp.length_eq
  rw[cE] at hl
  omega
 done:=fun s Q E st k=>amK hh st.1 st.2.2 st.2.1 X (fun y hy=>by simpa using hp.mem_iff.mp hy) (fun y v h' ho=>by
  obtain⟨z,_⟩:=cB.mp ho
  have hl:=hp.length_eq
  rw[cE] at hl
  omega) fun _ h' kp=>k h' s.toks fun b o nb e=>kp b o (fun z=>nb (by simp[z])) e
 self:=fun i s Q E st k=>aqA st.1 k
theorem az8{Q:Value->Shared->Prop}(hS:s.heap.get? a=some (aa0 es ep t))(X:SetE prog w es t)
  (k:(w.params.followText "set-order"=true∨(!t.plain&&decide (es.size>1))=false)->Q (.ref s.heap.objs.size) {s with heap:=s.heap.push (sit (rawInt 0) 0 a es.size ep)})
  (kD:∀(ys:List Nat) (d:Drawn),ys.Perm (List.range es.size)->Q (.ref (s.heap.objs.size+1)) {s with heap:=(s.heap.push {cls:=.type "tuple",data:=.seq (ys.map fun (y:Nat)=>rawInt y).toArray}).push (sit (.ref s.heap.objs.size) 0 a es.size ep),drawn:=d}):
  wpAny (model prog w) A (pyIter (.ref a)) Q E s:=by
 have hT:s.TypeIs (.ref a) "set":=⟨_,hS,rfl⟩
 refine wpAny_pyIter_slot hT F.slot_set_iter (wpAny_call_entry F.slot_set_iter hT alE ?_ (F.args_set_iter_1 _))
 unfold Builtin.«frozenset.__iter__» Builtin.Frozenset.slot0
 refine dW (dW (m:=slotArgs _ _ _) (eJ (eJ ?_)))
 unfold Builtin.Frozenset.sizeOf setEntries
 refine dW (dW (dW (dY hS rfl X.fit (eJ (eJ ?_)))))
 unfold setDrawn
 refine dW (dW (dY hS rfl X.fit ?_))
 refine dW (afT (eJ ?_))
 have sl:=fits_of_scanBound X.sz
 dsimp only
 change wpAny _ _ (if (!w.params.followText "set-order"&&(!t.plain&&decide (es.size>1)))=true then _ else _) _ _ _
 by_cases c:(!w.params.followText "set-order"&&(!t.plain&&decide (es.size>1)))=true
 ·rw[if_pos c]
  refine dW (amQ es.size (List.range es.size) s _ cE fun ys d hp=>?_)
  unfold newTuple
  refine dW (dU ?_ (by show (ys.map fun (y:Nat)=>rawInt y).toArray.size<=_;rw[bJ,aU,hp.length_eq,cE];omega))
  refine dW (wpAny_setEpoch_of (aW _ hS) rfl X.fit ?_)
  unfold newFields
  refine dW (dU (eJ ⟨_,rfl,"set_iterator",_,⟨_,bD _ rfl,rfl⟩,slot_set_itn.lookup,?_⟩))
  have:=kD ys d hp
  rw[cH]
  exact this
 ·rw[if_neg c]
  refine dW (eJ (dW (wpAny_setEpoch_of hS rfl X.fit ?_)))
  unfold newFields
  refine dW (dU (eJ ⟨_,rfl,"set_iterator",_,⟨_,bD _ rfl,rfl⟩,slot_set_itn.lookup,k ?_⟩))
  cases q:w.params.followText "set-order" with
  |true=>exact .inl rfl
  |false=>
   refine .inr ?_
   rw[q] at c
   simpa using c
theorem asC{Q:Bool->Shared->Prop}(hT:s.TypeIs (.ref a) "set")(h:Q false s):wpAny (model prog w) A (Builtin.List.listLengthHint (.ref a)) Q E s:=by
 unfold Builtin.List.listLengthHint
 refine dW (wpAny_specialOf hT F.slot_set_len.lookup ?_)
 generalize hid:("set.__len__":String)=id0
 wp_delta
 have parts:splitId id0=some ("set","__len__"):=by subst hid;decide +kernel
 rw[parts]
 subst hid
 refine dW (wpAny_isInstance (T:="set") (b:=true) hT (by rw[isSubtype_type];kernel_rfl) ?_)
 refine wpAny_ite_split (fun z=>absurd z (by decide)) (fun _=>wpAny_ite_split (fun _=>dW (wpAny_typeOf hT (eJ h))) fun z=>absurd (by decide +kernel) z)
end
section
variable{prog:Program}{w:World}{A:Around}{E:Value->Shared->Prop}{s:Shared}{a I:Addr}{es:Array (Int×Value)}{ep:Nat}{t:SetTable}
theorem aqQ{xs:List Value}{acc:Array Value}{n:Nat}(hn:xs.length=n)(its:ItemsOf (fun i v=>xs[i]? =some v) acc n):acc.toList=xs:=by
 refine List.ext_getElem? fun i=>?_
 rw[cD]
 by_cases c:i<acc.size
 ·have e:=cR c
  rw[e,its.2 i _ e]
 ·rw[dQ (by omega),dJ (by have:=its.1;omega)]
theorem asX{R:Result->Shared->Prop}{S:Addr}(hh:A.handled=none)(hS:s.heap.get? a=some (aa0 es ep t))(X:SetE prog w es t)(ne:S≠a)(hL:s.heap.get? S=some {cls:=.type "list",data:=.seq #[]})
  (k:∀(s':Shared) (acc:Array Value) (c:Nat),acc.toList.Perm (es.toList.map (·.2))->(∀b o,b≠S->s.heap.get? b=some o->s'.heap.get? b=some o)->s'.gens=s.gens->s'.os=s.os->s'.heap.get? S=some {cls:=.type "list",data:=.seq acc c}->R (.ok (.ret (.ref S))) s'):
  wpAny (model prog w) A.in1 (Builtin.List.listExtendWith (.ref S) (.ref a) (.ref S)) (fun fin s'=>match fin with | .done f=>R (.ok f) s' | .again c'=>c'.quiet=true/\codeAny (model prog w) A c' R s') (fun e s'=>R (.error e) s') s:=by
 have sl:=fits_of_scanBound X.sz
 have la:a<s.heap.objs.size:=aV hS
 have lS:S<s.heap.objs.size:=aV hL
 have apart:Builtin.List.listSameRef (.ref S) (.ref a)=false:=by simp[Builtin.List.listSameRef,ne]
 unfold Builtin.List.listExtendWith
 refine dW (wpAny_typeOf (T:="set") ⟨_,hS,rfl⟩ ?_)
 rw[if_neg (by rw[apart];decide)]
 refine dW (az8 hS X (fun nd=>?_) fun ys d hp=>?_)
 ·have HS:(s.heap.push (sit (rawInt 0) 0 a es.size ep)).get? a=some (aa0 es ep t):=aW _ hS
  have LS:(s.heap.push (sit (rawInt 0) 0 a es.size ep)).get? S=some {cls:=.type "list",data:=.seq #[]}:=aW _ hL
  have W:=axI (A:=A.in1) (ep:=ep) (I:=s.heap.objs.size) hh (aX la) X nd
  have ST:0<=es.size/\(s.heap.push (sit (rawInt 0) 0 a es.size ep)).get? s.heap.objs.size=some (sit (rawInt (aa9 w t 0)) 0 a es.size ep)/\(s.heap.push (sit (rawInt 0) 0 a es.size ep)).get? a=some (aa0 es ep t):=⟨bK _,by rw[ay0];exact bD s.heap (o:=sit (rawInt 0) 0 a es.size ep) rfl,HS⟩
  refine dW (d5 (asC ⟨_,HS,rfl⟩ ?_))
  rw[if_pos (by decide)]
  refine dW (wpAny_rule (dW (show wpAny _ _ (updateSeq S (fun l=>l.push Value.none) >>=fun _=>updateSeq S fun l=>l.pop) _ _ _ from dW (wpAny_updateSeq LS rfl ?_))))
  have S1:=cJ (Obj.mapSeq (·.push Value.none)) LS rfl
  refine wpAny_updateSeq (hz:=by seq_fits) S1 rfl ?_
  have S2:=cJ (Obj.mapSeq (·.pop)) S1 rfl
  have oth:∀b o,b≠S->(s.heap.push (sit (rawInt 0) 0 a es.size ep)).get? b=some o->(((s.heap.push (sit (rawInt 0) 0 a es.size ep)).update S (Obj.mapSeq (·.push Value.none))).update S (Obj.mapSeq (·.pop))).get? b=some o:=fun b o nb e=>by
   rw[b9 _ _ (Ne.symm nb),b9 _ _ (Ne.symm nb)]
   exact e
  have out:S∉[s.heap.objs.size,a]:=by
   simp only[aY,cA,or_false,not_or]
   exact⟨aX lS,ne⟩
  refine eJ ⟨plainId_quiet PySem.F.plain_extend_loop _,codeAny_extend_loopS W.toS sl S out _ es.size 0 _ #[] _ rfl (bK _) (W.frame 0 _ _ ST fun b hb o e=>oth b o (fun z=>out (z▸hb)) e) S2 (ItemsOf.nil _) fun s' acc c mv S3 its=>?_⟩
  exact k s' acc c (by rw[aqQ aoJ its];exact ord_perm) (fun b ob nb e=>mv.heap b ob (by simp[nb,aX (aV e)]) (oth b ob nb (aW _ e))) mv.gens mv.os S3
 ·have nT:s.heap.objs.size≠s.heap.objs.size+1:=aX (cY _)
  have HS:((s.heap.push ({cls:=.type "tuple",data:=.seq (ys.map fun (y:Nat)=>rawInt y).toArray}:Obj)).push (sit (.ref s.heap.objs.size) 0 a es.size ep)).get? a=some (aa0 es ep t):=aW _ (aW _ hS)
  have LS:((s.heap.push ({cls:=.type "tuple",data:=.seq (ys.map fun (y:Nat)=>rawInt y).toArray}:Obj)).push (sit (.ref s.heap.objs.size) 0 a es.size ep)).get? S=some {cls:=.type "list",data:=.seq #[]}:=aW _ (aW _ hL)
  have W:=auB (A:=A.in1) (ep:=ep) (I:=s.heap.objs.size+1) (T:=s.heap.objs.size) hh (aX (cM la)) nT X hp
  have eI:((s.heap.push ({cls:=.type "tuple",data:=.seq (ys.map fun (y:Nat)=>rawInt y).toArray}:Obj)).push (sit (.ref s.heap.objs.size) 0 a es.size ep)).get? (s.heap.objs.size+1)=some (sit (.ref s.heap.objs.size) 0 a es.size ep):=by
   have:=bD (s.heap.push ({cls:=.type "tuple",data:=.seq (ys.map fun (y:Nat)=>rawInt y).toArray}:Obj)) (o:=sit (.ref s.heap.objs.size) 0 a es.size ep) rfl
   rw[cH] at this
   exact this
  have ST:((s.heap.push ({cls:=.type "tuple",data:=.seq (ys.map fun (y:Nat)=>rawInt y).toArray}:Obj)).push (sit (.ref s.heap.objs.size) 0 a es.size ep)).get? (s.heap.objs.size+1)=some (sit (.ref s.heap.objs.size) 0 a es.size ep)/\((s.heap.push ({cls:=.type "tuple",data:=.seq (ys.map fun (y:Nat)=>rawInt y).toArray}:Obj)).push (sit (.ref s.heap.objs.size) 0 a es.size ep)).get? a=some (aa0 es ep t)/\((s.heap.push ({cls:=.type "tuple",data:=.seq (ys.map fun (y:Nat)=>rawInt y).toArray}:Obj)).push (sit (.ref s.heap.objs.size) 0 a es.size ep)).get? s.heap.objs.size=some {cls:=.type "tuple",data:=.seq (ys.map fun (y:Nat)=>rawInt y).toArray}:=⟨eI,HS,aW _ (bD _ rfl)⟩
  refine dW (d5 (asC ⟨_,HS,rfl⟩ ?_))
  rw[if_pos (by decide)]
  refine dW (wpAny_rule (dW (show wpAny _ _ (updateSeq S (fun l=>l.push Value.none) >>=fun _=>updateSeq S fun l=>l.pop) _ _ _ from dW (wpAny_updateSeq LS rfl ?_))))
  have S1:=cJ (Obj.mapSeq (·.push Value.none)) LS rfl
  refine wpAny_updateSeq (hz:=by seq_fits) S1 rfl ?_
  have S2:=cJ (Obj.mapSeq (·.pop)) S1 rfl
  have oth:∀b o,b≠S->((s.heap.push ({cls:=.type "tuple",data:=.seq (ys.map fun (y:Nat)=>rawInt y).toArray}:Obj)).push (sit (.ref s.heap.objs.size) 0 a es.size ep)).get? b=some o->((((s.heap.push ({cls:=.type "tuple",data:=.seq (ys.map fun (y:Nat)=>rawInt y).toArray}:Obj)).push (sit (.ref s.heap.objs.size) 0 a es.size ep)).update S (Obj.mapSeq (·.push Value.none))).update S (Obj.mapSeq (·.pop))).get? b=some o:=fun b o nb e=>by
   rw[b9 _ _ (Ne.symm nb),b9 _ _ (Ne.symm nb)]
   exact e
  have out:S∉[s.heap.objs.size+1,a,s.heap.objs.size]:=by
   simp only[aY,cA,or_false,not_or]
   exact⟨aX (cM lS),ne,aX lS⟩
  refine eJ ⟨plainId_quiet PySem.F.plain_extend_loop _,codeAny_extend_loopS W.toS sl S out _ es.size 0 _ #[] _ rfl (bK _) (W.frame 0 _ _ ST fun b hb o e=>oth b o (fun z=>out (z▸hb)) e) S2 (ItemsOf.nil _) fun s' acc c mv S3 its=>?_⟩
  have el:acc.toList=ys.map fun y=>((es.toList.map (·.2))[y]?).getD .none:=by
   refine aqQ (by rw[aU,hp.length_eq,cE]) ⟨its.1,fun i v hv=>?_⟩
   obtain⟨y,h1,h2⟩:=its.2 i v hv
   rw[bA,h1]
   show some (((es.toList.map (·.2))[y]?).getD .none)=_
   rw[h2]
   rfl
  have er:(List.range es.size).map (fun y=>((es.toList.map (·.2))[y]?).getD Value.none)=es.toList.map (·.2):=by
   refine List.ext_getElem? fun i=>?_
   rw[bA]
   by_cases c:i<es.size
   ·rw[List.getElem?_range c]
    show some (((es.toList.map (·.2))[i]?).getD .none)=(es.toList.map (·.2))[i]?
    rw[bS (by rw[aU,bW];exact c)]
    rfl
   ·rw[dJ (by rw[cE];omega),dJ (by rw[aU,bW];omega)]
    rfl
  refine k s' acc c (by rw[el];exact (hp.map _).trans (List.Perm.of_eq er)) (fun b ob nb e=>mv.heap b ob ?_ (oth b ob nb (aW _ (aW _ e)))) mv.gens mv.os S3
  simp only[aY,cA,or_false,not_or]
  exact⟨nb,aX (cM (aV e))⟩
theorem aqJ{Q:List Value->Shared->Prop}(hh:A.handled=none)(hS:s.heap.get? a=some (aa0 es ep t))(X:SetE prog w es t)
  (k:∀(s':Shared) (vs:List Value),vs.Perm (es.toList.map (·.2))->(∀b o,s.heap.get? b=some o->s'.heap.get? b=some o)->s.heap.objs.size<s'.heap.objs.size->s'.gens=s.gens->s'.os=s.os->Q vs s'):wpAny (model prog w) A (collect (.ref a)) Q E s:=by
 let nl:Obj:={cls:=.type "list",data:=.seq ([]:List Value).toArray}
 have S1:(s.heap.push nl).get? s.heap.objs.size=some nl:=bD _ rfl
 unfold collect
 refine dW (wpAny_runValue (codeAny_builtin F.entry_proto_collect ?_))
 rw[Around.under_plainId F.plain_proto_collect _]
 refine dW (dU (eJ ⟨plainId_quiet F.plain_list_iadd _,codeAny_builtin F.entry_list_iadd ?_⟩))
 rw[Around.under_plainId F.plain_list_iadd _]
 have key:=asX (A:=A) (s:={s with heap:=s.heap.push nl}) (S:=s.heap.objs.size) (R:=fun q s'=>∃acc c,q=.ok (.ret (.ref s.heap.objs.size))/\acc.toList.Perm (es.toList.map (·.2))/\(∀b o,s.heap.get? b=some o->s'.heap.get? b=some o)/\s'.gens=s.gens/\s'.os=s.os/\s'.heap.get? s.heap.objs.size=some {cls:=.type "list",data:=.seq acc c})
  hh (aW _ hS) X (Nat.ne_of_gt (aV hS)) S1 fun s' acc c p kp g o e=>⟨acc,c,rfl,p,fun b ob q=>kp b ob (aX (aV q)) (aW _ q),g,o,e⟩
 have fin:∀s' acc c,acc.toList.Perm (es.toList.map (·.2))->(∀b o,s.heap.get? b=some o->s'.heap.get? b=some o)->s'.gens=s.gens->s'.os=s.os->s'.heap.get? s.heap.objs.size=some {cls:=.type "list",data:=.seq acc c}->
   wpAny (model prog w) A (do let o ←load s.heap.objs.size;match o.data with | .seq xs _=>pure xs.toList | _=>unsupported "internal:collect") Q E s':=fun s' acc c p kp g o e=>dW (wpAny_load e (eJ (k s' acc.toList p kp (aV e) g o)))
 refine dX key (fun f s' x=>?_) fun e s' x=>?_
 ·cases f with
  |done f=>
   obtain⟨acc,c,e,p,kp,g,o,q⟩:=x
   cases e
   exact fin s' acc c p kp g o q
  |again c1=>
   refine⟨x.1,d6 x.2 fun r s2 y=>?_⟩
   obtain⟨acc,c,rfl,p,kp,g,o,q⟩:=y
   exact fin s2 acc c p kp g o q
 ·obtain⟨_,_,e',_⟩:=x
  cases e'
theorem asM{Q:Value->Shared->Prop}(hh:A.handled=none)(hS:s.heap.get? a=some (aa0 es ep t))(X:SetE prog w es t)(h64:es.size<64)
  (k:∀(s':Shared) (D:Addr) (vs:List Value) (ns:List Int) (c:Nat),s.heap.objs.size<=D->s'.heap.get? D=some {cls:=.type "list",data:=.seq vs.toArray c}->IntsAre vs ns->ns.Pairwise (·<·)->(∀x,x∈ns↔x∈ab6 es)->(∀b o,s.heap.get? b=some o->s'.heap.get? b=some o)->s'.gens=s.gens->s'.os=s.os->Q (.ref D) s'):
  wpAny (model prog w) A (call (.builtin "sorted") [.ref a]) Q E s:=by
 refine Calls.call_function_entry kind_sorted plain_sorted entry_sorted (args_sorted1 _) ?_
 unfold Builtin.«sorted»
 refine dW (m:=checkCount "sorted" 1 1 _) (eJ (dW (aqJ (A:=A.in1) hh hS X fun s1 vs hp k1 sz1 g1 o1=>?_)))
 have hl:vs.length=es.size:=by rw[hp.length_eq,aU,bW]
 refine dW (wpAny_newList ?_ (by rw[hl,dZ];omega))
 have hin:IntsAre vs (vs.map zOf):=by
  have all:∀v∈vs,∃t,v=.int (zOf v) t:=fun v hv=>by
   obtain⟨e,he,rfl⟩:=bL.mp (hp.mem_iff.mp hv)
   exact ayC X.el he
  clear hp hl
  induction vs with
  |nil=>exact .nil
  |cons v r ih=>
   obtain⟨t,e⟩:=all v (by simp)
   rw[bG]
   rw[e]
   exact .cons _ _ (ih fun u hu=>all u (bM _ hu))
 have zp:(vs.map zOf).Perm (ab6 es):=by
  have:=hp.map zOf
  rw[cQ] at this
  exact this
 have hoL:(s1.heap.push (seqObj "list" vs.toArray 0)).get? s1.heap.objs.size=some (seqObj "list" vs.toArray 0):=bD _ rfl
 refine dW (d5 (wpAny_call_entry slot_list_sort ⟨_,hoL,rfl⟩ entry_list_sort (list_sort_tree hoL hin (by omega) fun out ns' a1 a2 a3=>⟨_,rfl,?_⟩) (args_list_sort _)))
 obtain⟨e,he⟩:=sortedHeap_at (out:=out) hoL
 refine eJ ⟨_,rfl,k _ s1.heap.objs.size out.toList ns' e (Nat.le_of_lt sz1) (by rw[Array.toArray_toList];exact he) a1 ?_ (fun x=>by rw[a2.mem_iff,zp.mem_iff]) (fun b ob q=>?_) g1 o1⟩
 ·have nd:ns'.Nodup:=a2.nodup_iff.mpr (zp.nodup_iff.mpr X.nd)
  exact (List.pairwise_and_iff.mpr ⟨a3,nd⟩).imp fun ⟨h1,h2⟩=>by omega
 ·have q1:=k1 b ob q
  have lb:=aV q1
  rw[sortedHeap_old (aX lb) (by rw[size_push'];exact cM lb)]
  exact aW _ q1
end
noncomputable def stO(P:Program)(w:World)(q:Addr)(ns:List Int):HO:=.ext fun h=>∃es ep t,h.get? q=some (aa0 es ep t)/\SetE P w es t/\∀x,x∈ab6 es↔x∈ns
theorem Inv.other{X:Cx}{pins:List (Addr×Obj)}{σ:St}{H:Hp}{s s':Shared}(I:Inv X pins σ H s)(e1:s'.heap=s.heap)(e2:s'.gens=s.gens)(e3:s'.os=s.os):Inv X pins σ H s':=by
 obtain⟨h,g,d,t,o⟩:=s
 obtain⟨h',g',d',t',o'⟩:=s'
 cases e1
 cases e2
 cases e3
 exact⟨I.ok,I.os,I.bare,I.base,I.loc,I.cell,I.free,I.freeC,I.pin,I.hok,I.len⟩
theorem ap2:∀{ns:List Int} {us:List Value},Vals (ns.map V.int) us->IntsAre us ns
 |[],_,r=>by cases r;exact .nil
 |n::ns,_,.cons h r=>by
  obtain⟨t,rfl⟩:=h
  exact .cons n t (ap2 r)
theorem af6:∀(n:Nat) {zs:List Int},zs.Nodup->(∀x∈zs,0<=x/\x<n)->zs.length<=n
 |0,zs,_,hb=>by
  cases zs with
  |nil=>exact aS _
  |cons x r=>
   have:=hb x (by simp)
   omega
 |n+1,zs,hn,hb=>by
  by_cases c:(n:Int)∈zs
  ·have h1:=af6 n (hn.erase (n:Int)) fun x hx=>by
    obtain⟨h2,h3⟩:=hn.mem_erase_iff.mp hx
    have:=hb x h3
    omega
   rw[List.length_erase_of_mem c] at h1
   omega
  ·have h1:=af6 n hn fun x hx=>by
    have:=hb x hx
    have:x≠n:=fun e=>c (e▸hx)
    omega
   omega
section
variable{X:Cx}
theorem cSet(hc:X.calm=true:=by rfl):Cl1 X (.type "set") (fun xs H Q=>∃(p:Addr) (ns:List Int),xs=[.ref p]/\SqL X.K H p (ns.map V.int)/\ns.length+1<4096/\∀q,H q=none->Q (.ref q) (upd H q (stO X.prog X.w q ns))):=by
 refine⟨fun pins s σ H xs us Q I r h=>?_⟩
 obtain⟨p,ns,rfl,hS,hl,k⟩:=h
 obtain⟨u,rfl,ru⟩:=acE r
 cases ru
 obtain⟨its,rv,pl,hlen⟩:=I.list hS
 have hi:=ap2 rv
 refine axS (I.ok.hd hc) pl.isList (by simpa using hi) (by have:=IntsAre.length hi;show its.toArray.size+1<4096;rw[bJ];omega) fun h' tk es ep t e SE m kp=>?_
 refine⟨.ref s.heap.objs.size,_,I.laid (a:=s.heap.objs.size) (o:=stO X.prog X.w s.heap.objs.size ns) kp (aS _) ⟨⟨es,ep,t,e,SE,m⟩,⟨_,e⟩,fun h1 h2 ⟨es,ep,t,e,SE,m⟩ kk=>⟨es,ep,t,kk _ e,SE,m⟩⟩,rfl,k _ (I.hok.fresh (aS _))⟩
theorem cSrt(hc:X.calm=true:=by rfl):Cl1 X (.builtin "sorted") (fun xs H Q=>∃(q:Addr) (ns:List Int),xs=[.ref q]/\H q=some (stO X.prog X.w q ns)/\(∀x∈ns,0<=x/\x<63)/\∀(D:Addr) (zs:List Int),H D=none->zs.Pairwise (·<·)->(∀x,x∈zs↔x∈ns)->Q (.ref D) (upd H D (.lst (zs.map V.int)))):=by
 refine⟨fun pins s σ H xs us Q I r h=>?_⟩
 obtain⟨q,ns,rfl,hq,hb,k⟩:=h
 obtain⟨u,rfl,ru⟩:=acE r
 cases ru
 obtain⟨es,ep,t,e,SE,m⟩:=(I.hok q _ hq).1
 have h63:=af6 63 SE.nd fun x hx=>hb x ((m x).mp hx)
 have hes:es.size<64:=by
  unfold ab6 at h63
  rw[aU,bW] at h63
  omega
 refine asM (I.ok.hd hc) e SE hes fun s' D vs zs c lD eD hi hp hm kp g o=>?_
 have vz:=ahV hi
 have lz:zs.length<=63:=af6 63 (hp.imp fun h=>by omega) fun x hx=>hb x ((m x).mp ((hm x).mp hx))
 have J:=(I.laid (a:=D) (o:=.lst (zs.map V.int)) (t':=s.toks) (h':=s'.heap) kp lD ⟨by rw[aU,dZ];omega,vs,c,vz,eD⟩).other (s':=s') rfl g o
 exact⟨.ref D,_,J,rfl,k D zs (I.hok.fresh lD) hp fun x=>(hm x).trans (m x)⟩
end
section
variable{X:Cx}
end
section
variable{js:List Nat}{σ:St}{tt:TT}{te:TE}{Q:VK}{H1:Hp}
end
theorem ifX{a b:List Nat}{A B:Prop}(h1:a=b->A)(h2:¬a=b->B):if decide (V.str (Tx a)=V.str (Tx b))=true then A else B:=by
 rw[ay2]
 exact ifD h1 h2
end L2
namespace KM
open PySem PySem.Spec PyProof.Rows L2
inductive Mk where
 |num (m:Int) | lst (b:Int) | nea (d:Int) | wrk | wkd (m:Int) | nth (w m:Int) | one (w:Int) | nil
 deriving DecidableEq
noncomputable def Lf(l f:Int):Prop:=(28<=l/\l<=31)/\0<=f/\f<=6
noncomputable def ae4(ds:List Int):Int:=(ds.map fun d=>1*2^d.toNat).sum
noncomputable def asc:List Int->Bool
 |[]=>true
 |[_]=>true
 |x::y::r=>decide (x<y)&&asc (y::r)
noncomputable def okA(ds:List Int):Bool:=decide (ds.length<=31)&&(asc ds&&ds.all fun d=>decide (0<=d)&&decide (d<=31))
theorem ax5:∀{ds:List Int},asc ds=true->ds.Pairwise (·<·)
 |[],_=>.nil
 |[_],_=>.cons (fun _ h=>nomatch h) .nil
 |x::y::r,h=>by
  have h':(decide (x<y)&&asc (y::r))=true:=h
  rw[bF] at h'
  have ih:=ax5 h'.2
  refine .cons (fun z hz=>?_) ih
  rcases aY.mp hz with rfl | hz
  ·exact eA h'.1
  ·exact Int.lt_trans (eA h'.1) ((List.pairwise_cons.mp ih).1 z hz)
theorem aEW{ds:List Int}(h:okA ds=true):ds.length<=31/\ds.Pairwise (·<·)/\∀d∈ds,0<=d/\d<=31:=by
 unfold okA at h
 rw[bF,bF] at h
 refine⟨eA h.1,ax5 h.2.1,fun d hd=>?_⟩
 have z:=bZ.mp h.2.2 d hd
 rw[bF] at z
 exact⟨eA z.1,eA z.2⟩
theorem avC(ds:List Int):0<=ae4 ds:=by
 unfold ae4
 induction ds with
 |nil=>exact aZ 0
 |cons d ds ih=>
  have:=aaM d.toNat
  rw[bG,List.sum_cons]
  omega
theorem avY{n:Nat}:∀{ds:List Int} (a:Nat),ds.Pairwise (·<·)->(∀d∈ds,(a:Int)<=d/\d<(n:Int))->a<=n->ae4 ds+2^a<=2^n
 |[],a,_,_,h=>by
  have:=Nat.pow_le_pow_right (show 0<2 by decide) h
  have e:((2:Int)^a)<=2^n:=by exact_mod_cast this
  show (0:Int)+2^a<=2^n
  omega
 |d::ds,a,hp,hb,h=>by
  have p:=List.pairwise_cons.mp hp
  have hd:=hb d (bP ..)
  have ih:=avY (n:=n) (d.toNat+1) p.2 (fun z hz=>by
   have:=p.1 z hz
   have:=hb z (bM _ hz)
   omega) (by omega)
  have hm:=Nat.pow_le_pow_right (show 0<2 by decide) (show a<=d.toNat by omega)
  have e:((2:Int)^a)<=2^d.toNat:=by exact_mod_cast hm
  have e2:(2:Int)^(d.toNat+1)=2^d.toNat*2:=Int.pow_succ ..
  unfold ae4 at ih ⊢
  rw[bG,List.sum_cons]
  omega
noncomputable def akQ(m l:Int):Int:=Builtin.bitAnd m (2*2^l.toNat-2)
noncomputable def apG(b l:Int):Int:=if l<=b then 0 else 1*2^(l-b).toNat
noncomputable def apQ(m:Int)(n:Nat):Bool:=decide (Builtin.bitAnd (m / 2^(1+(n:Int)).toNat) 1=1)
noncomputable def ahO(m:Int):Nat->List Int
 |0=>[]
 |n+1=>ahO m n++(if apQ m n=true then [1+(n:Int)] else [])
noncomputable def nw(d l f:Int):Int:=if (f+d-1)%7=6 then (if 1<d then d-1 else 3) else if (f+d-1)%7=0 then (if d<l then d+1 else l-2) else d
noncomputable def apS(d l f:Int):Int:=if l<d then 0 else 1*2^(nw d l f).toNat
noncomputable def wk(f:Int)(n:Nat):Bool:=decide (1<=(f+(1+(n:Int))-1)%7)&&decide ((f+(1+(n:Int))-1)%7<=5)
noncomputable def ay9(f:Int):Nat->List Int
 |0=>[]
 |n+1=>ay9 f n++(if wk f n=true then [1+(n:Int)] else [])
noncomputable def ab(i:Int):Int:=if i<0 then -i else i
noncomputable def stp(d acc o:Int):Int:=if acc=0 then o else if ab (o-d)<ab (acc-d) then o else acc
noncomputable def acA(w m f:Int):Int:=1+(w-f)%7+7*(m-1)
noncomputable def al8(w m l f:Int):Int:=if l<acA w m f then 0 else 1*2^(acA w m f).toNat
noncomputable def adD(w l f:Int):Int:=l-((f+l-1)%7-w)%7
noncomputable def aC6(w l f:Int):Int:=1*2^(adD w l f).toNat
noncomputable def wks(m:Int):Nat->Int
 |0=>0
 |n+1=>Builtin.bitOr (wks m n) (m*2^(7*(0+(n:Int))).toNat)
noncomputable def wkD(m l f:Int):Int:=Builtin.bitAnd (wks m 6 / 2^f.toNat*2^(1:Int).toNat) (2*2^l.toNat-2)
noncomputable def onD(f w:Int)(n:Nat):Bool:=decide ((f+(1+(n:Int))-1)%7=w)
noncomputable def onN(f w:Int):Nat->List Int
 |0=>[]
 |n+1=>onN f w n++(if onD f w n=true then [1+(n:Int)] else [])
noncomputable def ayP(m f:Int)(n:Nat):Bool:=decide (Builtin.bitAnd (m / 2^((f+(1+(n:Int))-1)%7).toNat) 1=1)
noncomputable def wkN(m f:Int):Nat->List Int
 |0=>[]
 |n+1=>wkN m f n++(if ayP m f n=true then [1+(n:Int)] else [])
noncomputable def ab8:List Int:=[1,2,3,4,5,6,7,8,9,10,11,12,13,14,15,16,17,18,19,20,21,22,23,24,25,26,27,28,29,30,31]
noncomputable def ls4:List Int:=[28,29,30,31]
noncomputable def fs7:List Int:=[0,1,2,3,4,5,6]
noncomputable def ms5:List Int:=[1,2,3,4,5]
noncomputable def aqB:List Int:=(List.range 128).map fun n:Nat=>(n:Int)
theorem ayR:∀l∈ls4,∀f∈fs7,∀d∈ab8,d<=l->(ay9 f l.toNat).foldl (stp d) 0=nw d l f/\1<=nw d l f/\nw d l f<=31:=by decide +kernel
theorem aCI:∀l∈ls4,∀f∈fs7,∀w∈fs7,∀m∈ms5,al8 w m l f=ae4 (aMI (onN f w l.toNat) (some (m-1)) (some m))/\okA (aMI (onN f w l.toNat) (some (m-1)) (some m))=true/\0<=acA w m f/\acA w m f<=100:=by decide +kernel
theorem aA8:∀l∈ls4,∀f∈fs7,∀w∈fs7,atI ((onN f w l.toNat).map V.int) (-1)=some (V.int (adD w l f))/\0<=adD w l f/\adD w l f<=31:=by decide +kernel
theorem ayA:∀m∈aqB,∀l∈ls4,∀f∈fs7,wkD m l f=ae4 (wkN m f l.toNat)/\okA (wkN m f l.toNat)=true:=by decide +kernel
theorem aCB:∀m∈aqB,(∀n:Nat,n<7->(wks m n).natAbs<2^60)/\∀f∈fs7,(wks m 6 / 2^f.toNat).natAbs<2^64:=by decide +kernel
theorem aeZ{l:Int}(h0:28<=l)(h1:l<=31):l∈ls4:=by
 have:l=28∨l=29∨l=30∨l=31:=by omega
 rcases this with rfl | rfl | rfl | rfl<;>decide
theorem afQ{f:Int}(h0:0<=f)(h1:f<=6):f∈fs7:=by
 have:f=0∨f=1∨f=2∨f=3∨f=4∨f=5∨f=6:=by omega
 rcases this with rfl | rfl | rfl | rfl | rfl | rfl | rfl<;>decide
theorem aLQ{m:Int}(h0:1<=m)(h1:m<=5):m∈ms5:=by
 have:m=1∨m=2∨m=3∨m=4∨m=5:=by omega
 rcases this with rfl | rfl | rfl | rfl | rfl<;>decide
theorem aCD{m:Int}(h0:0<=m)(h1:m<=127):m∈aqB:=by
 unfold aqB
 exact bL.mpr ⟨m.toNat,cT.mpr (by omega),by omega⟩
theorem alR{d:Int}(h0:1<=d)(h1:d<=31):d∈ab8:=by
 have e:d=1+((d-1).toNat:Int):=by omega
 have hn:(d-1).toNat<31:=by omega
 rw[e]
 generalize (d-1).toNat=n at hn
 have all:∀n:Nat,n<31->(1+(n:Int))∈ab8:=by decide +kernel
 exact all n hn
theorem in_b{d:Int}(h0:0<=d)(h1:d<=30):d∈0::ab8:=by
 by_cases e:d=0
 ·rw[e];exact bP ..
 ·exact bM _ (alR (by omega) (by omega))
noncomputable def Ok3(d l f:Int):Prop:=(1<=d/\d<=31)/\(28<=l/\l<=31)/\0<=f/\f<=6
theorem ajO{d l f:Int}(h:Ok3 d l f)(hd:d<=l):(ay9 f l.toNat).foldl (stp d) 0=nw d l f/\1<=nw d l f/\nw d l f<=31:=ayR l (aeZ h.2.1.1 h.2.1.2) f (afQ h.2.2.1 h.2.2.2) d (alR h.1.1 h.1.2) hd
theorem Lf.last{l f:Int}(h:Lf l f):Ok3 l l f:=⟨⟨by have:=h.1.1;omega,h.1.2⟩,h.1,h.2⟩
theorem aBN{m:Int}(h:0<=m)(n:Nat):apQ m n=tb m (n+1):=by
 have e:(1+(n:Int)).toNat=n+1:=by omega
 unfold apQ
 rw[e]
 by_cases c:tb m (n+1)=true
 ·rw[c];exact eC ((aeT h _).mpr c)
 ·have c':tb m (n+1)=false:=by simpa using c
  rw[c'];exact eF fun q=>c ((aeT h _).mp q)
noncomputable def ay1(m:Int)(i:Nat):Bool:=decide (1<=i)&&tb m i
theorem aqP{m:Int}(h:0<=m):∀n:Nat,ae4 (ahO m n)=mk_ (ay1 m) (n+1)
 |0=>by
  have e:ay1 m 0=false:=rfl
  rw[avU,aBH,e]
  rfl
 |n+1=>by
  have ih:=aqP h n
  rw[avU,←ih]
  show ae4 (ahO m n++(if apQ m n=true then [1+(n:Int)] else []))=_
  have e:ay1 m (n+1)=apQ m n:=by rw[aBN h];unfold ay1;simp
  have e1:(1+(n:Int)).toNat=n+1:=by omega
  rw[e]
  unfold ae4
  rw[bH,List.sum_append]
  by_cases c:apQ m n=true
  ·rw[if_pos c,if_pos c]
   show _+(1*2^(1+(n:Int)).toNat+0)=_
   rw[e1]
   omega
  ·rw[if_neg c,if_neg c]
   rfl
theorem ao4(m:Int):∀n:Nat,(ahO m n).length<=n/\(ahO m n).Pairwise (·<·)/\∀d∈ahO m n,0<=d/\d<=n
 |0=>⟨aS _,.nil,fun d hd=>nomatch hd⟩
 |n+1=>by
  obtain⟨h1,hp,h2⟩:=ao4 m n
  show (ahO m n++(if apQ m n=true then [1+(n:Int)] else [])).length<=n+1/\(ahO m n++(if apQ m n=true then [1+(n:Int)] else [])).Pairwise (·<·)/\∀d∈ahO m n++(if apQ m n=true then [1+(n:Int)] else []),_
  split
  ·refine⟨by simp;omega,List.pairwise_append.mpr ⟨hp,.cons (fun _ h=>nomatch h) .nil,fun a ha b hb=>?_⟩,fun d hd=>?_⟩
   ·have:b=1+(n:Int):=by simpa using hb
    have:=h2 a ha
    omega
   ·rcases bV.mp hd with z | z
    ·have:=h2 d z;omega
    ·have:d=1+(n:Int):=by simpa using z
     omega
  ·rw[cI]
   refine⟨by omega,hp,fun d hd=>?_⟩
   have:=h2 d hd;omega
theorem as5{m l:Int}(h:0<=m)(hl:28<=l/\l<=31):akQ m l=ae4 (ahO m l.toNat)/\(ahO m l.toNat).length<=31/\(ahO m l.toNat).Pairwise (·<·)/\∀d∈ahO m l.toNat,0<=d/\d<=31:=by
 obtain⟨k1,kp,k2⟩:=ao4 m l.toNat
 have hp:=aaM l.toNat
 refine⟨?_,by omega,kp,fun d hd=>by have:=k2 d hd;omega⟩
 rw[aqP h]
 have e:(2*2^l.toNat-2:Int)=(2^l.toNat-1)*2^1:=by omega
 have n0:(0:Int)<=2^l.toNat-1:=by omega
 have n1:(0:Int)<=(2^l.toNat-1)*2^1:=by omega
 unfold akQ
 rw[e]
 refine abM (ag0 h n1) (av3 _ _) fun i=>?_
 rw[acL h n1,anT n0,ajM,au4]
 unfold ay1
 by_cases c1:1<=i
 ·have:(i-1<l.toNat)↔(i<l.toNat+1):=by omega
  simp only[c1,this,decide_true,cZ]
  rw[Bool.and_comm]
 ·simp[c1]
theorem rng{l:Int}(hl:28<=l/\l<=31):(-(2^62)<=(1:Int)/\(1:Int)<2^62/\ -(2^62)<=l+1/\l+1<2^62)/\(l+1-1).toNat=l.toNat/\(l+1-1).toNat<=sizeLine:=by
 obtain⟨h0,h1⟩:=hl
 refine⟨⟨by decide,by decide,by omega,by omega⟩,by omega,?_⟩
 rw[dZ]
 omega
noncomputable def ao9(w m:Int):List (Str×V):=aaU "many" (.int m) (aaU "weekday" (.int w) [])
theorem ne1:¬(("weekday":Str)="many"):=by decide +kernel
theorem aFG(w m:Int):(ao9 w m).lookup ("weekday":Str)=some (.int w):=by
 unfold ao9
 rw[aaE,if_neg ne1,aaE,if_pos rfl]
theorem aGJ(w m:Int):(ao9 w m).lookup ("many":Str)=some (.int m):=by
 unfold ao9
 rw[aaE,if_pos rfl]
theorem aAY(w m:Int):(ao9 w m).lookup ("days":Str)=none:=by
 unfold ao9
 rw[aaE,if_neg (by decide +kernel),aaE,if_neg (by decide +kernel)]
 rfl
noncomputable def Mk.due:Mk->Int->Int->Int
 |.num m,l,_=>akQ m l
 |.lst b,l,_=>apG b l
 |.nea d,l,f=>apS d l f
 |.wrk,l,f=>1*2^(nw l l f).toNat
 |.wkd m,l,f=>wkD m l f
 |.nth w m,l,f=>al8 w m l f
 |.one w,l,f=>aC6 w l f
 |.nil,_,_=>0
noncomputable def Mk.ok:Mk->Prop
 |.num m=>0<=m
 |.lst b=>0<=b/\b<=30
 |.nea d=>1<=d/\d<=31
 |.wrk=>True
 |.wkd m=>0<=m/\m<=127
 |.nth w m=>(0<=w/\w<=6)/\1<=m/\m<=5
 |.one w=>0<=w/\w<=6
 |.nil=>True
noncomputable def Mk.wk:Mk->Bool
 |.wkd _ | .nth _ _ | .one _=>true
 |_=>false
noncomputable def Mk.tup:Mk->List V
 |.num m=>[.str (Tx [112,108,97,105,110]),.int m,.int 0]
 |.wkd m=>[.str (Tx [112,108,97,105,110]),.int m,.int 0]
 |.lst b=>[.str (Tx [108,97,115,116]),.int b,.int 0]
 |.nea d=>[.str (Tx [110,101,97,114]),.int d,.int 0]
 |.wrk=>[.str (Tx [119,111,114,107]),.int 0,.int 0]
 |.nth w m=>[.str (Tx [110,116,104]),.int w,.int m]
 |.one w=>[.str (Tx [108,97,115,116,111,110,101]),.int w,.int 0]
 |.nil=>[]
noncomputable def Mk.sp:Mk->Bool
 |.nil=>false
 |_=>true
theorem apR{k:Mk}{l f:Int}(hk:k.ok)(h:Lf l f):0<=k.due l f:=by
 have p1:∀n:Nat,(0:Int)<=1*2^n:=fun n=>by have:=aaM n;omega
 cases k with
 |num m=>show 0<=akQ m l;rw[(as5 hk h.1).1];exact avC _
 |lst b=>show 0<=apG b l;unfold apG;split;exact aZ 0;exact p1 _
 |nea d=>show 0<=apS d l f;unfold apS;split;exact aZ 0;exact p1 _
 |wrk=>exact p1 _
 |wkd m=>show 0<=wkD m l f;rw[(ayA m (aCD hk.1 hk.2) l (aeZ h.1.1 h.1.2) f (afQ h.2.1 h.2.2)).1];exact avC _
 |nth w m=>show 0<=al8 w m l f;unfold al8;split;exact aZ 0;exact p1 _
 |one w=>exact p1 _
 |nil=>exact aZ 0
noncomputable def orK(ks:List Mk)(l f:Int):Int:=orM (ks.map fun k=>k.due l f)
theorem azE(ks:List Mk)(k:Mk)(l f:Int):orK (ks++[k]) l f=Builtin.bitOr (orK ks l f) (k.due l f):=by unfold orK;rw[bH];exact aeI _ _
theorem aEX{ks ks':List Mk}{l f:Int}(h:Lf l f)(o:∀k∈ks,k.ok)(o':∀k∈ks',k.ok)(e:∀i,(ks.any fun k=>tb (k.due l f) i)=(ks'.any fun k=>tb (k.due l f) i)):orK ks l f=orK ks' l f:=by
 have n:∀(js:List Mk),(∀k∈js,k.ok)->∀m∈js.map (fun k=>k.due l f),0<=m:=fun js hj m hm=>by
  obtain⟨k,hk,rfl⟩:=bL.mp hm
  exact apR (hj k hk) h
 refine abM (ab9 (n ks o)) (ab9 (n ks' o')) fun i=>?_
 unfold orK
 rw[ab1 (n ks o),ab1 (n ks' o'),List.any_map,List.any_map]
 exact e i
structure Cs where
 (nu la ne lw we nt lo ma:Addr)
noncomputable def MkAt(c:Cs)(H:Hp)(x:Addr):Mk->Prop
 |.num m=>∃dx,H x=some (.ins c.nu dx [("mask",.int m)])
 |.lst b=>∃dx,H x=some (.ins c.la dx [("back",.int b)])
 |.nea d=>∃dx,H x=some (.ins c.ne dx [("day",.int d)])
 |.wrk=>∃dx,H x=some (.ins c.lw dx [])
 |.wkd m=>∃dx,H x=some (.ins c.we dx [("mask",.int m)])
 |.nth w m=>∃dx,H x=some (.ins c.nt dx (ao9 w m))
 |.one w=>∃dx,H x=some (.ins c.lo dx [("weekday",.int w)])
 |.nil=>∃dx,H x=some (.ins c.ma dx [])
theorem MkAt.keep{c:Cs}{H H':Hp}(s:Keep H H'){x:Addr}{k:Mk}(h:MkAt c H x k):MkAt c H' x k:=by
 cases k<;>(obtain⟨dx,h⟩:=h;exact⟨dx,s.ins h⟩)
noncomputable def PrAt(H:Hp)(p:Addr)(k:Mk):Prop:=k.ok/\k.sp=true/\∃u,H p=some (.tup [.ref u,.bl k.wk])/\H u=some (.tup k.tup)
theorem PrAt.keep{H H':Hp}(s:Keep H H'){p:Addr}{k:Mk}(h:PrAt H p k):PrAt H' p k:=by
 obtain⟨o,e,u,h1,h2⟩:=h
 exact⟨o,e,u,s.tup h1,s.tup h2⟩
noncomputable abbrev Ft(R:Addr->Mk->Prop):List Addr->List Mk->Prop:=Paired R
theorem Ft.get{R:Addr->Mk->Prop}:∀{ps:List Addr} {ks:List Mk},Ft R ps ks->∀{i:Nat} {p:Addr},ps[i]? =some p->∃k,ks[i]? =some k/\R p k
 |_,_,.nil,_,_,h=>nomatch h
 |_,_,.cons r _,0,_,h=>by cases h;exact⟨_,rfl,r⟩
 |_,_,.cons _ t,i+1,_,h=>Ft.get t h
theorem Ft.keepM{c:Cs}{H H':Hp}(s:Keep H H'){ps:List Addr}{ks:List Mk}(h:Ft (MkAt c H) ps ks):Ft (MkAt c H') ps ks:=Paired.imp' (fun _ _ z=>z.keep s) h
theorem Ft.app{R:Addr->Mk->Prop}:∀{ps:List Addr} {ks:List Mk} {ps':List Addr} {ks':List Mk},Ft R ps ks->Ft R ps' ks'->Ft R (ps++ps') (ks++ks')
 |_,_,_,_,.nil,h=>h
 |_,_,_,_,.cons r t,h=>.cons r (Ft.app t h)
end KM
namespace L2
open PySem
theorem aLI{us:List Value}(h:us.length=1):∃a,us=[a]:=by
 cases us with
 |nil=>cases h
 |cons a r=>cases r with
  |nil=>exact⟨a,rfl⟩
  |cons b r=>cases h
theorem aED{us:List Value}{n:Nat}(h:us.length=n+1):∃a r,us=a::r/\r.length=n:=by
 cases us with
 |nil=>cases h
 |cons a r=>exact⟨a,r,rfl,Nat.succ.inj h⟩
theorem aJ5{us:List Value}(h:us.length=2):∃a b,us=[a,b]:=by
 obtain⟨a,r,rfl,h'⟩:=aED h
 obtain⟨b,rfl⟩:=aLI h'
 exact⟨a,b,rfl⟩
theorem aHR{us:List Value}(h:us.length=3):∃a b c,us=[a,b,c]:=by
 obtain⟨a,r,rfl,h'⟩:=aED h
 obtain⟨b,c,rfl⟩:=aJ5 h'
 exact⟨a,b,c,rfl⟩
theorem len4{us:List Value}(h:us.length=4):∃a b c d,us=[a,b,c,d]:=by
 obtain⟨a,r,rfl,h'⟩:=aED h
 obtain⟨b,c,d,rfl⟩:=aHR h'
 exact⟨a,b,c,d,rfl⟩
structure DfA(P:Program)(w:World)(K:FG)(mg:Str->Option Value)(base:Heap)(f:Addr)(k:Nat)(ps:List Str)(sp:Sp):Prop where
 ex:∃fd:FuncData,FnOk P w K mg base CX0 k f fd ps sp/\Binds K fd ps []/\PySem.W.keepIn K (.ref f)=true
theorem Df.at_{P:Program}{w:World}{K:FG}{mg:Str->Option Value}{base:Heap}{x:Str}{k:Nat}{ps:List Str}{sp:Sp}{f:Addr}(D:Df P w K mg base x k ps sp)(hm:mg x=some (.ref f)):DfA P w K mg base f k ps sp:=by
 obtain⟨f',fd,F,hb,hm',kp⟩:=D.ex
 rw[hm] at hm'
 cases hm'
 exact⟨fd,F,hb,kp⟩
noncomputable def aFP(f:Addr)(sp:Sp)(tv:TE)(t:TA):TE:=fun σ H Q=>tv σ H fun v H1=>v=.ref f/\auJ sp [] E0 t σ H1 Q
section
variable{X:Cx}{f:Addr}{k k':Nat}{ps:List Str}{sp:Sp}{y:Str}{e:Expr}{es:List Expr}{t:TA}{tv:TE}{p pos:Pos}
theorem eDV(D:DfA X.prog X.w X.K X.mg X.base f k ps sp)(hr:Room k' X.A)(hv:E X (.Name y p) tv)(ha:As X (e::es) t)(hk:k<=k':=by decide)
  (he:starEach (e::es) X.env=(false,eval e X.env)::starEach es X.env:=by rfl) (hpl:(backTo pos (starEach es X.env)).any (·.1)=false:=by rfl):E X (.Call (.Name y p) (e::es) [] pos) (aFP f sp tv t):=by
 obtain⟨fd,F,hb,kp⟩:=D.ex
 refine⟨fun pins s σ H Q I h=>?_⟩
 refine eG (thn (hv.h pins s σ H _ I h) fun v s1 ⟨x,H1,I1,r1,ex,q⟩=>?_)
 subst ex
 cases r1
 refine PySem.W.callWith_K (h₀:=X.base) I1.ok.mod.kin kp (thn (ha.h pos pins s1 σ H1 _ I1 q) fun us s2 ⟨vs,H2,I2,r,q2⟩=>⟨I2.kIn,?_⟩) he hpl
 exact asR F (hr.mono hk) hb .nil apW I2 r q2
end
section
variable{X:Cx}
noncomputable def aHS:V->List V->Hp->VK->Prop:=fun x vs H Q=>∃l p:List Nat,x=.str (Tx l)/\vs=[.str (Tx p)]/\Q (.bl (decide (l.take p.length=p))) H
theorem aFT(l p:List Nat):(decide (0+(Tx p).length<=(Tx l).length)&&Builtin.Str.subAt (Tx l) (Tx p) 0)=decide (l.take p.length=p):=by
 rw[abE,abE]
 have e:(Tx l).cps.extract 0 (0+(Tx p).length)=(l.take p.length).toArray:=by
  rw[abE]
  show l.toArray.extract 0 (0+p.length)=_
  simp
 have e2:(((l.take p.length).toArray==p.toArray:Bool))=decide (l.take p.length=p):=by
  by_cases h:l.take p.length=p
  ·rw[h];simp
  ·rw[eF h]
   exact beq_eq_false_iff_ne.mpr fun z=>h (by simpa using congrArg Array.toList z)
 unfold Builtin.Str.subAt
 rw[e]
 show (_&&((l.take p.length).toArray==p.toArray))=_
 rw[e2]
 by_cases h:l.take p.length=p
 ·have:0+p.length<=l.length:=by
   have:=congrArg List.length h
   rw[dC] at this
   omega
  rw[eC this,cZ]
 ·rw[eF h,cS]
theorem aGD:MtR X "str.startswith" aHS:=by
 intro pins s σ H x xs v us Q I rx rv h
 obtain⟨l,p,rfl,rfl,q⟩:=h
 obtain⟨u,rfl,r1⟩:=acE rv
 obtain⟨t',rfl⟩:=r1
 obtain⟨t,rfl⟩:=rx
 refine call_gives PySem.F.slot_str_startswith (typeIs_str _ _ _) PySem.F.entry_str_startswith (PySem.F.args_str_startswith_2 _ _) (gives_str_startswith (Tx l) (Tx p) t t') ?_
 rw[aFT]
 exact⟨.bl _,H,I,rfl,q⟩
theorem eSwN{o e:Expr}{to te:TE}{apos cpos:Pos}(ho:E X o to)(he:E X e te)(hbase:attributeBase o "startswith" X.env (eval o X.env)=eval o X.env:=by rfl)
  (hfew:((backTo cpos (starEach [e] X.env)).all (fun x=> !x.1)&&(backToKw cpos (keywordEach [] X.env)).all (fun x=>x.1.isSome)&&decide (([e]:List Expr).length+([]:List Keyword).length+(if ([]:List Keyword).isEmpty then 0 else 1)<30))=true:=by rfl)
  (hline:(apos.endLine==cpos.line)=true:=by rfl) (hs:starEach [e] X.env=(false,eval e X.env)::starEach [] X.env:=by rfl) (hplain:(backTo cpos (starEach [] X.env)).any (·.1)=false:=by rfl):
  E X (.Call (.Attribute o "startswith" apos) [e] [] cpos) (tBM X.K "str" aHS to (adX te akI)):=
 ⟨arR PySem.F.plainAttrs_str PySem.F.slot_str_startswith PySem.F.type_str_startswith aGD ho.h (acY he.h aeG hs) hbase hfew hline hs hplain⟩
noncomputable def rEw:V->List V->Hp->VK->Prop:=fun x vs H Q=>∃(l:List Nat) (c:Nat),x=.str (Tx l)/\vs=[.str (Tx [c])]/\Q (.bl (decide (l.getLast? =some c))) H
theorem aN4(l:List Nat)(c:Nat):(decide (0+(Tx [c]).length<=(Tx l).length)&&Builtin.Str.subAt (Tx l) (Tx [c]) ((Tx l).length-(Tx [c]).length))=decide (l.getLast? =some c):=by
 rw[abE,abE]
 rcases List.eq_nil_or_concat l with rfl | ⟨r,x,rfl⟩
 ·simp
 ·rw[List.concat_eq_append]
  have e:(Tx (r++[x])).cps.extract ((r++[x]).length - [c].length) ((r++[x]).length - [c].length+(Tx [c]).length)= #[x]:=by
   show (r++[x]).toArray.extract ((r++[x]).length-1) ((r++[x]).length-1+1)= #[x]
   rw[bC,cL,Nat.add_sub_cancel]
   simp
  unfold Builtin.Str.subAt
  rw[e]
  have e2:decide (0+[c].length<=(r++[x]).length)=true:=by simp
  rw[e2,cZ,List.getLast?_append,List.getLast?_singleton]
  show (#[x]== #[c])=decide (some x=some c)
  by_cases h:x=c
  ·subst h;simp
  ·have h2:¬some x=some c:=fun z=>h (a8 z)
   rw[eF h2]
   exact beq_eq_false_iff_ne.mpr fun z=>h (by simpa using z)
theorem aQY:MtR X "str.endswith" rEw:=by
 intro pins s σ H x xs v us Q I rx rv h
 obtain⟨l,c,rfl,rfl,q⟩:=h
 obtain⟨u,rfl,r1⟩:=acE rv
 obtain⟨t',rfl⟩:=r1
 obtain⟨t,rfl⟩:=rx
 refine call_gives PySem.F.slot_str_endswith (typeIs_str _ _ _) PySem.F.entry_str_endswith (PySem.F.args_str_endswith_2 _ _) (gives_str_endswith (Tx l) (Tx [c]) t t') ?_
 rw[aN4]
 exact⟨.bl _,H,I,rfl,q⟩
theorem eEw{o e:Expr}{to te:TE}{apos cpos:Pos}(ho:E X o to)(he:E X e te)(hbase:attributeBase o "endswith" X.env (eval o X.env)=eval o X.env:=by rfl)
  (hfew:((backTo cpos (starEach [e] X.env)).all (fun x=> !x.1)&&(backToKw cpos (keywordEach [] X.env)).all (fun x=>x.1.isSome)&&decide (([e]:List Expr).length+([]:List Keyword).length+(if ([]:List Keyword).isEmpty then 0 else 1)<30))=true:=by rfl)
  (hline:(apos.endLine==cpos.line)=true:=by rfl) (hs:starEach [e] X.env=(false,eval e X.env)::starEach [] X.env:=by rfl) (hplain:(backTo cpos (starEach [] X.env)).any (·.1)=false:=by rfl):
  E X (.Call (.Attribute o "endswith" apos) [e] [] cpos) (tBM X.K "str" rEw to (adX te akI)):=
 ⟨arR PySem.F.plainAttrs_str PySem.F.slot_str_endswith PySem.F.type_str_endswith aQY ho.h (acY he.h aeG hs) hbase hfew hline hs hplain⟩
end
end L2
namespace KM
open PySem PySem.Spec PyProof.Rows L2
noncomputable def ac1(t:List Nat):Option Mk:=
 if t=[76] then some (.lst 0) else if t=[76,87] then some .wrk
 else if t.take ([76,45]:List Nat).length=[76,45] then (aaX 1 30 (ae3 t (some 2) none)).map Mk.lst
 else if t.getLast? =some 87 then (aaX 1 31 (ae3 t none (some (-1)))).map Mk.nea else none
noncomputable def wdN(t:List Nat):Option Int:=(aaX 0 7 t).map fun n=>if n=7 then 0 else n
noncomputable def aDQ:Option Int->Option Int->Option Mk
 |some w,some m=>some (.nth w m)
 |_,_=>none
noncomputable def ao6(t:List Nat):Option Mk:=
 if t.getLast? =some 76 then (wdN (ae3 t none (some (-1)))).map Mk.one
 else match spl 35 t with
  |[a,b]=>aDQ (wdN a) (aaX 1 5 b)
  |_=>none
noncomputable def rdM(wk:Bool)(t:List Nat):Option Mk:=if wk=true then ao6 t else ac1 t
noncomputable def MkV(c:Cs)(H:Hp)(v:V):Option Mk->Prop
 |none=>v=.non
 |some k=>∃x,v=.ref x/\MkAt c H x k
theorem abR(c:Nat):∀(l:List Nat),∀w∈spl c l,w.length<=l.length
 |[],w,hw=>by simp[spl] at hw;simp[hw]
 |x::r,w,hw=>by
  have ih:=abR c r
  unfold spl at hw
  split at hw
  ·rcases aY.mp hw with z | z
   ·subst z;simp
   ·have:=ih w z;simp;omega
  ·split at hw
   ·rename_i h t e
    rcases aY.mp hw with z | z
    ·subst z
     have:=ih h (by rw[e];simp)
     simp;omega
    ·have:=ih w (by rw[e];simp[z])
     simp;omega
   ·have:w=[x]:=by simpa using hw
    subst this;simp
noncomputable def plP(lo hi:Int)(ws:List (List Nat)):List Int:=ws.filterMap (aaI lo hi)
noncomputable def mkP(wk:Bool)(lo hi:Int)(ws:List (List Nat)):List Mk:=ws.filterMap fun w=>if (aaI lo hi w).isSome=true then none else rdM wk w
theorem aB8{lo hi:Int}{ws:List (List Nat)}{w:List Nat}{m:Int}(h:aaI lo hi w=some m):plP lo hi (ws++[w])=plP lo hi ws++[m]:=by
 unfold plP
 rw[dM]
 simp[h]
theorem ayD{lo hi:Int}{ws:List (List Nat)}{w:List Nat}(h:aaI lo hi w=none):plP lo hi (ws++[w])=plP lo hi ws:=by
 unfold plP
 rw[dM]
 simp[h]
theorem aF6{wk:Bool}{lo hi:Int}{ws:List (List Nat)}{w:List Nat}{m:Int}(h:aaI lo hi w=some m):mkP wk lo hi (ws++[w])=mkP wk lo hi ws:=by
 unfold mkP
 rw[dM]
 simp[h]
theorem ajQ{wk:Bool}{lo hi:Int}{ws:List (List Nat)}{w:List Nat}{k:Mk}(h:aaI lo hi w=none)(hk:rdM wk w=some k):mkP wk lo hi (ws++[w])=mkP wk lo hi ws++[k]:=by
 unfold mkP
 rw[dM]
 simp[h,hk]
theorem ar8(wk:Bool)(lo hi:Int)(ws:List (List Nat))(i:Nat):(mkP wk lo hi (ws.take i)).length<=(mkP wk lo hi ws).length:=((List.take_sublist i ws).filterMap _).length_le
structure ItemsOk(wk:Bool)(lo hi:Int)(l:List Nat):Prop where
 len:l.length<=300
 few:(spl 44 l).length<=40
 all:∀w∈spl 44 l,(aaI lo hi w).isSome=true∨(rdM wk w).isSome=true
 most:(mkP wk lo hi (spl 44 l)).length<=20
theorem aDG{xs:List V}(h:xs.length<=40):aq2 xs none (some 40)=xs:=by
 unfold aq2
 have e1:HT.sIx xs.length 0 none=0:=rfl
 have e2:xs.length<=HT.sIx xs.length xs.length (some 40):=by
  show xs.length<=HT.sIx xs.length xs.length (some 40)
  unfold HT.sIx
  simp
  omega
 rw[e1,List.drop_zero,Nat.sub_zero]
 exact dO e2
noncomputable def RunV(H:Hp)(r:V):Option (Int×Int)->Prop
 |none=>r=.non
 |some (a,b)=>∃p,r=.ref p/\H p=some (.tup [.int a,.int b])
theorem aBV(es:List (Option Int)):(es.map oV).all ae9=true:=by
 rw[List.all_map]
 refine bZ.mpr fun x _=>?_
 cases x<;>rfl
noncomputable def wk7(m:Int):Int:=Builtin.bitAnd (Builtin.bitOr m (m / 2^(7:Int).toNat)) 127
noncomputable def afN(wk:Bool)(m:Int):List Mk:=if m=0 then [] else if wk=true then [.wkd (wk7 m)] else [.num m]
noncomputable def aj2(wk:Bool)(lo hi:Int)(l:List Nat):List Mk:=afN wk (orM (plP lo hi (spl 44 l)))++mkP wk lo hi (spl 44 l)
noncomputable def Cl(t:List Nat):Prop:=(44∉t/\32∉t)/\t≠[]/\t.length<=8
instance (t:List Nat):Decidable (Cl t):=by unfold Cl;exact inferInstance
noncomputable def agY(lo hi:Int)(t:List Nat)(ns:List Int):Prop:=aaI lo hi t=some (aaO ns)/\Cl t/\(∀n∈ns,lo<=n/\n<=hi)/\ns≠[]/\ns.length<=64
theorem akP{c:Nat}{a b:List Nat}{d:Nat}(h1:c∉a)(h2:c∉b)(h3:c≠d):c∉a++d::b:=by
 simp only[bV,aY,not_or]
 exact⟨h1,h3,h2⟩
theorem atL{a b:List Nat}{d:Nat}(ha:(44∉a/\32∉a)/\a≠[]/\a.length<=5)(hb:(44∉b/\32∉b)/\b.length<=2)(h1:44≠d)(h2:32≠d):Cl (a++d::b):=by
 refine⟨⟨akP ha.1.1 hb.1.1 h1,akP ha.1.2 hb.1.2 h2⟩,by simp,?_⟩
 have:=ha.2.2
 have:=hb.2
 rw[bC,bX]
 omega
theorem ahM{n:Nat}(h:n<100):(44∉num n/\32∉num n)/\num n≠[]/\(num n).length<=2:=⟨⟨abI h (by decide),abI h (by decide)⟩,aF7 n,(akL n h).2.2.2⟩
theorem alK{a b s lo hi:Int}(h0:0<=a)(h1:b<=63)(hab:a<=b)(hs:0<s)(hl:lo<=a)(hb:b<=hi):(∀n∈acU a b s,lo<=n/\n<=hi)/\acU a b s≠[]/\(acU a b s).length<=64:=by
 refine⟨fun n hn=>?_,fun e=>?_,?_⟩
 ·have:=(apH hs).mp hn
  omega
 ·have:a∈acU a b s:=(apH hs).mpr ⟨aZ _,hab,by rw[Int.sub_self];rfl⟩
  rw[e] at this
  cases this
 ·rw[ajL,aU,cE,ajP hs,if_pos hab]
  have:=Int.ediv_le_self (a:=b-a) s (by omega)
  omega
theorem aB5(a:Int):acU a a 1=[a]:=by
 rw[ajL,ajP (by decide),if_pos (aZ a),Int.sub_self]
 show [a+((0:Nat):Int)*1]=[a]
 simp
theorem i1{lo hi a:Int}(h0:0<=lo)(h1:lo<=a)(h2:a<=hi)(h3:hi<=63):agY lo hi (num a.toNat) [a]:=by
 have ha:a.toNat<100:=by omega
 have e:=au3 (lo:=lo) (hi:=hi) ha (by omega) (by omega)
 rw[bU (by omega)] at e
 have c:=ahM ha
 have r:=alK (a:=a) (b:=a) (s:=1) (lo:=lo) (hi:=hi) (by omega) (by omega) (by omega) (by decide) h1 h2
 have e2:=akM (abI ha (by decide)) e
 unfold ai4 at e2
 rw[aB5] at e2 r
 exact⟨e2,⟨c.1,c.2.1,by have:=c.2.2;omega⟩,r⟩
theorem i2{lo hi a b:Int}(h0:0<=lo)(h1:lo<=a)(h2:a<=b)(h4:b<=hi)(h3:hi<=63):agY lo hi (num a.toNat++45::num b.toNat) (acU a b 1):=by
 have ha:a.toNat<100:=by omega
 have hb:b.toNat<100:=by omega
 have e:=aC0 (lo:=lo) (hi:=hi) ha hb (by omega) (by omega) (by omega)
 rw[bU (by omega),bU (by omega)] at e
 have ca:=ahM ha
 have cb:=ahM hb
 exact⟨akM (akP (abI ha (by decide)) (abI hb (by decide)) (by decide)) e,atL ⟨ca.1,ca.2.1,by have:=ca.2.2;omega⟩ ⟨cb.1,cb.2.2⟩ (by decide) (by decide),alK (by omega) (by omega) h2 (by decide) h1 h4⟩
theorem i0{lo hi:Int}(h0:0<=lo)(h1:lo<=hi)(h3:hi<=63):agY lo hi [42] (acU lo hi 1):=
 ⟨akM (by decide) ap0,by decide,alK h0 h3 h1 (by decide) (aZ _) (aZ _)⟩
theorem i3{lo hi s:Int}(h0:0<=lo)(h1:lo<=hi)(h3:hi<=63)(hs:1<=s/\s<=99):agY lo hi ([42]++47::num s.toNat) (acU lo hi s):=by
 have hs':s.toNat<100:=by omega
 have e:=arD (show 47∉[42] by decide) (ap0 (lo:=lo) (hi:=hi)) hs' (by omega)
 rw[if_neg (by decide),bU (by omega)] at e
 have cs:=ahM hs'
 exact⟨e,atL (by decide) ⟨cs.1,cs.2.2⟩ (by decide) (by decide),alK h0 h3 h1 (by omega) (aZ _) (aZ _)⟩
theorem i4{lo hi a s:Int}(h0:0<=lo)(h1:lo<=a)(h2:a<=hi)(h3:hi<=63)(hs:1<=s/\s<=99):agY lo hi (num a.toNat++47::num s.toNat) (acU a hi s):=by
 have ha:a.toNat<100:=by omega
 have hs':s.toNat<100:=by omega
 have e1:=au3 (lo:=lo) (hi:=hi) ha (by omega) (by omega)
 have e:=arD (abI ha (by decide)) e1 hs' (by omega)
 rw[if_pos (akL _ ha).1,bU (by omega),bU (by omega)] at e
 have ca:=ahM ha
 have cs:=ahM hs'
 exact⟨e,atL ⟨ca.1,ca.2.1,by have:=ca.2.2;omega⟩ ⟨cs.1,cs.2.2⟩ (by decide) (by decide),alK (by omega) h3 h2 (by omega) h1 (aZ _)⟩
theorem aEP:∀{zs:List Int},zs.Pairwise (·<·)->(∀z∈zs,0<=z)->∀i,0<=ae4 zs/\tb (ae4 zs) i=zs.any fun z=>decide (z.toNat=i):=by
 intro zs hp hn i
 have key:∀(n:Nat) (ys:List Int),ys.length=n->ys.Pairwise (·<·)->(∀z∈ys,0<=z)->ae4 ys=aaO ys:=by
  intro n
  induction n with
  |zero=>intro ys h _ _;rw[List.length_eq_zero_iff.mp h];rfl
  |succ n ih=>
   intro ys hl hp hn
   rcases List.eq_nil_or_concat ys with rfl | ⟨r,z,rfl⟩
   ·cases hl
   rw[List.concat_eq_append] at hl hp hn ⊢
   have hpa:=List.pairwise_append.mp hp
   have er:=ih r (by rw[bC,cL] at hl;omega) hpa.1 fun x hx=>hn x (List.mem_append_left _ hx)
   have hz:=hn z (bY _ (bE.mpr rfl))
   have hb:tb (aaO r) z.toNat=false:=by
    rw[abW,cX]
    intro x hx
    have h1:=hpa.2.2 x hx z (bE.mpr rfl)
    have h2:=hn x (List.mem_append_left _ hx)
    have:¬x.toNat=z.toNat:=by omega
    simpa using this
   have e1:ae4 (r++[z])=ae4 r+1*2^z.toNat:=by unfold ae4;rw[bH,List.sum_append];show _+(1*2^z.toNat+0)=_;omega
   have hnn:=acH r
   have hp2:=bR (aaM z.toNat)
   rw[e1,er,aj1]
   refine abM (by omega) (ahZ hnn (by omega)) fun j=>?_
   have e3:(1*2^z.toNat:Int)=2^z.toNat:=by omega
   have hz0:Builtin.bitAnd (aaO r) (2^z.toNat)=0:=by
    refine abM (ag0 hnn hp2) (aZ 0) fun k=>?_
    rw[acL hnn hp2,an2,aaT]
    by_cases c:z.toNat=k
    ·subst c;rw[hb];rfl
    ·simp[c]
   have ea:aaO r+2^z.toNat=Builtin.bitOr (aaO r) (2^z.toNat):=by rw[bitOr_and,hz0];omega
   rw[e3,ea]
 rw[key _ zs rfl hp hn]
 exact⟨acH _,abW _ _⟩
theorem af1{m:Int}(h:0<=m)(i:Nat):0<=wk7 m/\tb (wk7 m) i=((tb m i||tb m (7+i))&&decide (i<7)):=by
 have h1:(0:Int)<=m / 2^(7:Int).toNat:=dG h (by decide)
 unfold wk7
 refine⟨ag0 (ahZ h h1) (by decide),?_⟩
 rw[acL (ahZ h h1) (by decide),amJ h h1,ag9 h]
 have e:tb 127 i=decide (i<7):=ajM 7 i
 rw[e]
 rfl
theorem apX{ms:List Int}(h:∀m∈ms,0<=m):orM ms=0↔∀m∈ms,m=0:=by
 constructor
 ·intro e m hm
  refine abM (h m hm) (aZ 0) fun i=>?_
  have z:=ab1 h i
  rw[e,aaT] at z
  have:=cX.mp z.symm m hm
  rw[aaT]
  simpa using this
 ·intro e
  refine abM (ab9 h) (aZ 0) fun i=>?_
  rw[ab1 h,aaT,cX]
  intro m hm
  rw[e m hm,aaT]
  exact bB
theorem ay7{ms:List Int}(h:∀m∈ms,0<=m):wk7 (orM ms)=orM (ms.map wk7):=by
 have h':∀m∈ms.map wk7,0<=m:=fun m hm=>by
  obtain⟨z,hz,rfl⟩:=bL.mp hm
  exact (af1 (h z hz) 0).1
 refine abM (af1 (ab9 h) 0).1 (ab9 h') fun i=>?_
 rw[(af1 (ab9 h) i).2,ab1 h,ab1 h,ab1 h',List.any_map,cG]
 simp only[bF,Bool.or_eq_true,List.any_eq_true,eE,Function.comp]
 constructor
 ·rintro⟨⟨m,hm,e⟩ | ⟨m,hm,e⟩,hi⟩
  ·exact⟨m,hm,by rw[(af1 (h m hm) i).2,e,eC hi];rfl⟩
  ·exact⟨m,hm,by rw[(af1 (h m hm) i).2,e,eC hi,Bool.or_true];rfl⟩
 ·rintro⟨m,hm,e⟩
  rw[(af1 (h m hm) i).2,bF,Bool.or_eq_true,eE] at e
  rcases e with ⟨e | e,hi⟩
  ·exact⟨.inl ⟨m,hm,e⟩,hi⟩
  ·exact⟨.inr ⟨m,hm,e⟩,hi⟩
theorem aNK{m:Int}(h0:0<m)(h1:m<=255):wk7 m≠0/\0<=wk7 m/\wk7 m<=127:=by
 have all:∀n:Nat,n<256->0<n->wk7 (n:Int)≠0/\0<=wk7 (n:Int)/\wk7 (n:Int)<=127:=by decide +kernel
 have e:m=((m.toNat:Nat):Int):=by omega
 rw[e]
 exact all m.toNat (by omega) (by omega)
noncomputable def SpT(b:Bool)(t:List Nat):Mk->Prop
 |.num m=>b=false/\aaI 1 31 t=some m/\0<m
 |.wkd m=>b=true/\∃M,aaI 0 7 t=some M/\(0<M/\M<=255)/\m=wk7 M
 |.nil=>False
 |k=>aaI (if b=true then 0 else 1) (if b=true then 7 else 31) t=none/\rdM b t=some k
theorem aEM:∀n:Nat,n<31->1<=n->(aaI 1 31 ([76,45]++num n)=none/\rdM false ([76,45]++num n)=some (.lst n))/\Cl ([76,45]++num n):=by decide +kernel
theorem aFJ:∀n:Nat,n<32->1<=n->(aaI 1 31 (num n++[87])=none/\rdM false (num n++[87])=some (.nea n))/\Cl (num n++[87]):=by decide +kernel
theorem aQW:∀n:Nat,n<8->∀m:Nat,m<6->1<=m->(aaI 0 7 (num n++[35]++num m)=none/\rdM true (num n++[35]++num m)=some (.nth ((n:Int)%7) m))/\Cl (num n++[35]++num m):=by decide +kernel
theorem aw5{ns:List Int}(h:ns≠[])(hn:∀n∈ns,0<=n):0<aaO ns:=by
 have h0:=acH ns
 rcases Int.lt_or_eq_of_le h0 with h1 | h1
 ·exact h1
 ·cases ns with
  |nil=>exact absurd rfl h
  |cons n r=>
   have z:=abW (n::r) n.toNat
   rw[←h1,aaT,bN] at z
   simp at z
theorem ayY{ns:List Int}{n:Nat}(hn:∀z∈ns,0<=z/\z<(n:Int)):aaO ns<2^n:=by
 have e:aaO ns=mk_ (tb (aaO ns)) n:=by
  refine abM (acH _) (av3 _ _) fun i=>?_
  rw[au4]
  by_cases c:i<n
  ·rw[eC c,cZ]
  ·rw[eF c,cW,abW,cX]
   intro z hz
   have:=hn z hz
   have:¬z.toNat=i:=by omega
   simpa using this
 rw[e]
 exact ax7 _ _
end KM
namespace L2
open PySem PySem.Spec PyProof.Rows PySem.SeqAt
section
variable{X:Cx}
structure IsC(K:FG)(C:Addr):Prop where
 ha:PySem.W.findIn K (.ref C) "__class__"=some (some (.builtin "object.__class__"))
 hn:PySem.W.specialIn K (.builtin "object.__class__") "__get__"=some (some (.builtin "getset_descriptor.__get__"))
 htk:PySem.W.takesIn K (.builtin "object.__class__")=some true
 hm:PySem.W.mroIn K C (.type "object")=some true
theorem IsC.ty{K:FG}{C a dx:Addr}{H:Hp}{fs:List (Str×V)}(i:IsC K C)(c:Cls K C)(h:H a=some (.ins C dx fs)):TyOf K H (.ref a) (.ref C):=.ins h c i.ha i.hn i.htk i.hm
end
end L2
namespace KM
open PySem PySem.Spec PyProof.Rows L2
noncomputable def TpAt(b:Bool)(H:Hp)(u:Addr)(k:Mk):Prop:=H u=some (.tup k.tup)/\k.sp=true/\k.wk=b/\k.ok
theorem TpAt.keep{b:Bool}{H H':Hp}(s:Keep H H'){u:Addr}{k:Mk}(h:TpAt b H u k):TpAt b H' u k:=⟨s.tup h.1,h.2⟩
theorem Ft.keepT{b:Bool}{H H':Hp}(s:Keep H H'){ps:List Addr}{ks:List Mk}(h:Ft (TpAt b H) ps ks):Ft (TpAt b H') ps ks:=Paired.imp' (fun _ _ z=>z.keep s) h
noncomputable def Mk.pl:Mk->Option Int
 |.num m=>some m
 |.wkd m=>some m
 |_=>none
noncomputable def plK(ks:List Mk):List Int:=ks.filterMap Mk.pl
noncomputable def otK(ks:List Mk):List Mk:=ks.filter fun k=>k.pl.isNone
noncomputable def ap4(b:Bool)(M:Int):List Mk:=if M=0 then [] else if b=true then [.wkd M] else [.num M]
noncomputable def asF(b:Bool)(ks:List Mk):List Mk:=ap4 b (orM (plK ks))++otK ks
theorem aDD{b:Bool}{ks:List Mk}(h:∀k∈ks,k.sp=true/\k.wk=b/\k.ok):∀m∈plK ks,0<=m/\(b=true->m<=127):=by
 intro m hm
 obtain⟨k,hk,e⟩:=List.mem_filterMap.mp hm
 have:=h k hk
 cases k with
 |num z=>cases e;exact⟨this.2.2,fun hb=>by rw[←this.2.1] at hb;cases hb⟩
 |wkd z=>cases e;exact⟨this.2.2.1,fun _=>this.2.2.2⟩
 |lst z=>cases e
 |nea z=>cases e
 |wrk=>cases e
 |nth z y=>cases e
 |one z=>cases e
 |nil=>cases e
theorem auH{ms:List Int}{n:Nat}(h:∀m∈ms,0<=m/\m<2^n):orM ms<2^n:=by
 have h0:∀m∈ms,0<=m:=fun m hm=>(h m hm).1
 have e:orM ms=mk_ (tb (orM ms)) n:=by
  refine abM (ab9 h0) (av3 _ _) fun i=>?_
  rw[au4]
  by_cases c:i<n
  ·rw[eC c,cZ]
  ·rw[eF c,cW,ab1 h0,cX]
   intro m hm
   rw[acV (h m hm).2 (by omega)]
   exact bB
 rw[e]
 exact ax7 _ _
theorem aAT{b:Bool}{ks:List Mk}(h:∀k∈ks,k.sp=true/\k.wk=b/\k.ok):∀k∈ap4 b (orM (plK ks)),k.sp=true/\k.wk=b/\k.ok:=by
 have hp:=aDD h
 have h0:0<=orM (plK ks):=ab9 fun m hm=>(hp m hm).1
 intro k hk
 unfold ap4 at hk
 split at hk
 ·cases hk
 ·split at hk
  ·rename_i hb
   rw[bE.mp hk,hb]
   have e:(2:Int)^7=128:=by decide
   have:=auH (n:=7) (ms:=plK ks) fun m hm=>⟨(hp m hm).1,by have:=(hp m hm).2 hb;omega⟩
   exact⟨rfl,rfl,h0,by omega⟩
  ·rename_i hb
   rw[bE.mp hk]
   exact⟨rfl,by cases b with | true=>exact absurd rfl hb | false=>rfl,h0⟩
noncomputable abbrev Ws(b:Bool):List (List Nat)->List Mk->Prop:=Paired fun w k=>Cl w/\SpT b w k
noncomputable def lo_(b:Bool):Int:=if b=true then 0 else 1
noncomputable def hi_(b:Bool):Int:=if b=true then 7 else 31
theorem auU(k:Mk)(ks:List Mk):plK (k::ks)=(match k.pl with | some m=>m::plK ks | none=>plK ks)/\otK (k::ks)=(match k.pl with | some _=>otK ks | none=>k::otK ks):=by
 unfold plK otK
 rw[c9,List.filter_cons]
 cases k.pl<;>exact⟨rfl,rfl⟩
theorem aAV(b:Bool)(lo hi:Int)(w:List Nat)(ws:List (List Nat)):plP lo hi (w::ws)=(match aaI lo hi w with | some m=>m::plP lo hi ws | none=>plP lo hi ws)/\mkP b lo hi (w::ws)=(match aaI lo hi w with | some _=>mkP b lo hi ws | none=>match rdM b w with | some k=>k::mkP b lo hi ws | none=>mkP b lo hi ws):=by
 unfold plP mkP
 rw[c9,c9]
 cases aaI lo hi w with
 |some m=>exact⟨rfl,rfl⟩
 |none=>exact⟨rfl,by cases rdM b w<;>rfl⟩
noncomputable def WsI(b:Bool)(ws:List (List Nat))(ks:List Mk):Prop:=mkP b (lo_ b) (hi_ b) ws=otK ks/\plK ks=(plP (lo_ b) (hi_ b) ws).map (fun m=>if b=true then wk7 m else m)/\(∀m∈plP (lo_ b) (hi_ b) ws,0<m/\(b=true->m<=255))/\∀w∈ws,(aaI (lo_ b) (hi_ b) w).isSome=true∨(rdM b w).isSome=true
theorem aAL(b:Bool):∀{ws:List (List Nat)} {ks:List Mk},Ws b ws ks->WsI b ws ks
 |_,_,.nil=>⟨rfl,rfl,fun m hm=>(nomatch hm),fun w hw=>(nomatch hw)⟩
 |w::ws,k::ks,.cons r t=>by
  obtain⟨i1,i2,i3,i4⟩:=aAL b t
  have c1:=auU k ks
  have c2:=aAV b (lo_ b) (hi_ b) w ws
  have plain:∀(m M:Int),k.pl=some m->aaI (lo_ b) (hi_ b) w=some M->(m=if b=true then wk7 M else M)->(0<M/\(b=true->M<=255))->WsI b (w::ws) (k::ks):=fun m M e1 e2 e3 e4=>by
   unfold WsI
   rw[e1] at c1
   rw[e2] at c2
   rw[c1.1,c1.2,c2.1,c2.2]
   refine⟨i1,by rw[bG,←e3,←i2],fun z hz=>?_,fun v hv=>?_⟩
   ·rcases aY.mp hz with rfl | hz
    ·exact e4
    ·exact i3 z hz
   ·rcases aY.mp hv with rfl | hv
    ·exact .inl (by rw[e2];rfl)
    ·exact i4 v hv
  have mark:k.pl=none->aaI (lo_ b) (hi_ b) w=none->rdM b w=some k->WsI b (w::ws) (k::ks):=fun e1 e2 e3=>by
   unfold WsI
   rw[e1] at c1
   rw[e2,e3] at c2
   rw[c1.1,c1.2,c2.1,c2.2]
   refine⟨by rw[i1],i2,i3,fun v hv=>?_⟩
   rcases aY.mp hv with rfl | hv
   ·exact .inr (by rw[e3];rfl)
   ·exact i4 v hv
  cases k with
  |num m=>
   obtain⟨_,hb,hr,h0⟩:=r
   subst hb
   exact plain m m rfl hr rfl ⟨h0,fun z=>nomatch z⟩
  |wkd m=>
   obtain⟨_,hb,M,hr,h0,hm⟩:=r
   subst hb
   exact plain m M rfl hr hm ⟨h0.1,fun _=>h0.2⟩
  |lst z=>exact mark rfl r.2.1 r.2.2
  |nea z=>exact mark rfl r.2.1 r.2.2
  |wrk=>exact mark rfl r.2.1 r.2.2
  |nth z y=>exact mark rfl r.2.1 r.2.2
  |one z=>exact mark rfl r.2.1 r.2.2
  |nil=>exact r.2.elim
theorem ax6{b:Bool}{ws:List (List Nat)}{ks:List Mk}{l:List Nat}(h:Ws b ws ks)(hl:spl 44 l=ws):aj2 b (lo_ b) (hi_ b) l=asF b ks:=by
 obtain⟨i1,i2,i3,_⟩:=aAL b h
 have hz:∀m∈plP (lo_ b) (hi_ b) ws,0<=m:=fun m hm=>bR (i3 m hm).1
 unfold aj2 asF
 rw[hl,i1,i2]
 congr 1
 cases b with
 |false=>
  have e:(plP (lo_ false) (hi_ false) ws).map (fun m=>if false=true then wk7 m else m)=plP (lo_ false) (hi_ false) ws:=List.map_id'' (fun _=>rfl) _
  rw[e]
  rfl
 |true=>
  have e:orM ((plP (lo_ true) (hi_ true) ws).map (fun m=>if true=true then wk7 m else m))=wk7 (orM (plP (lo_ true) (hi_ true) ws)):=(ay7 hz).symm
  rw[e]
  unfold afN ap4
  by_cases c:orM (plP (lo_ true) (hi_ true) ws)=0
  ·rw[if_pos c,c]
   rfl
  ·have c2:¬wk7 (orM (plP (lo_ true) (hi_ true) ws))=0:=fun z=>c (by
    rw[ay7 hz] at z
    have h0:∀m∈(plP (lo_ true) (hi_ true) ws).map wk7,0<=m:=fun m hm=>by
     obtain⟨y,hy,rfl⟩:=bL.mp hm
     exact (af1 (hz y hy) 0).1
    rw[apX hz]
    intro m hm
    have:=(apX h0).mp z (wk7 m) (bL.mpr ⟨m,hm,rfl⟩)
    exact absurd this (aNK (i3 m hm).1 ((i3 m hm).2 rfl)).1)
   rw[if_neg c,if_neg c2]
   rfl
theorem none_of{H H':Hp}(s:Same H H'){p:Addr}(h:H' p=none):H p=none:=by
 cases e:H p with
 |none=>rfl
 |some o=>rw[s _ _ e] at h;cases h
theorem agV:∀(ws:List (List Nat)),(∀w∈ws,w.length<=8)->(aaW 44 ws).length<=9*ws.length
 |[],_=>bK _
 |[w],h=>by
  have:=h w (bP ..)
  show w.length<=9
  omega
 |w::v::ws,h=>by
  have ih:=agV (v::ws) fun z hz=>h z (bM _ hz)
  have:=h w (bP ..)
  show (w++44::aaW 44 (v::ws)).length<=_
  rw[bC,bX,bX]
  omega
theorem Ws.cl{b:Bool}:∀{ws:List (List Nat)} {ks:List Mk},Ws b ws ks->∀w∈ws,Cl w
 |_,_,.nil,w,hw=>nomatch hw
 |_,_,.cons r t,w,hw=>by
  rcases aY.mp hw with rfl | hw
  ·exact r.1
  ·exact Ws.cl t w hw
theorem aDP{b:Bool}{ws:List (List Nat)}{ks:List Mk}(h:Ws b ws ks)(hne:ws≠[])(hn:ws.length<=20):spl 44 (aaW 44 ws)=ws/\ItemsOk b (lo_ b) (hi_ b) (aaW 44 ws):=by
 have hs:=aeH 44 ws hne fun w hw=>(h.cl w hw).1.1
 have hl:=agV ws fun w hw=>(h.cl w hw).2.2
 refine⟨hs,by omega,by rw[hs];omega,?_,?_⟩
 ·rw[hs]
  exact (aAL b h).2.2.2
 ·rw[hs]
  exact bO (List.length_filterMap_le ..) hn
noncomputable def PrT(H:Hp)(ts:List Addr)(prs:List (Nat×Nat)):Prop:=Paired (fun (t:Addr) (pr:Nat×Nat)=>H t=some (.tup [.int pr.1,.int pr.2])) ts prs
theorem PrT.keep{H H':Hp}{ts:List Addr}{prs:List (Nat×Nat)}(h:PrT H ts prs)(k:Keep H H'):PrT H' ts prs:=Paired.mapP h fun _ _ z=>k.tup z
theorem Paired.at{α β:Type}{F:α->β->Prop}:∀{l:List α} {r:List β} {i:Nat} {a:α},Paired F l r->l[i]? =some a->∃b,r[i]? =some b/\F a b
 |_,_,_,_,.nil,e=>by simp at e
 |_,_,0,_,.cons h _,e=>by
  have:=a8 e
  subst this
  exact⟨_,rfl,h⟩
 |_,_,i+1,_,.cons _ t,e=>Paired.at (i:=i) t e
noncomputable def rt(x:Nat×Nat):List Nat:=if x.1=x.2 then num x.1 else num x.1++45::num x.2
theorem ay6{x:Int}(h0:0<=x){n:Nat}(h:∀i,tb x i=true->i<n):x<2^n:=by
 have e:mk_ (tb x) n=x:=abM (av3 _ _) h0 fun i=>by
  rw[au4]
  cases c:tb x i
  ·simp
  ·simp[h i c]
 rw[←e]
 exact ax7 _ _
noncomputable def Dd(b:Bool)(m l f:Int):Int:=if b=true then wkD m l f else akQ m l
theorem au0{m f:Int}(h:0<=m)(n:Nat):ayP m f n=tb m ((f+(1+(n:Int))-1)%7).toNat:=by
 unfold ayP
 by_cases c:tb m ((f+(1+(n:Int))-1)%7).toNat=true
 ·rw[c];exact eC ((aeT h _).mpr c)
 ·have c':tb m ((f+(1+(n:Int))-1)%7).toNat=false:=by simpa using c
  rw[c'];exact eF fun q=>c ((aeT h _).mp q)
theorem wkN_mem{m f z:Int}:∀{n:Nat},z∈wkN m f n↔∃j,j<n/\ayP m f j=true/\z=1+(j:Int)
 |0=>⟨fun h=>(nomatch h),fun ⟨j,h,_⟩=>absurd h (cU j)⟩
 |n+1=>by
  show z∈wkN m f n++(if ayP m f n=true then [1+(n:Int)] else [])↔_
  rw[bV,wkN_mem]
  constructor
  ·rintro (⟨j,h1,h2,h3⟩ | h)
   ·exact⟨j,cM h1,h2,h3⟩
   ·split at h
    ·rename_i c
     exact⟨n,cY n,c,bE.mp h⟩
    ·cases h
  ·rintro⟨j,h1,h2,h3⟩
   by_cases c:j=n
   ·subst c
    rw[if_pos h2]
    exact .inr (bE.mpr h3)
   ·exact .inl ⟨j,by omega,h2,h3⟩
theorem az1{m l f:Int}(h0:0<=m)(h1:m<=127)(h:Lf l f)(i:Nat):tb (wkD m l f) i=(decide (1<=i)&&(decide ((i:Int)<=l)&&tb m ((f+(i:Int)-1)%7).toNat)):=by
 have hw:=ayA m (aCD h0 h1) l (aeZ h.1.1 h.1.2) f (afQ h.2.1 h.2.2)
 obtain⟨_,hp,hn⟩:=aEW hw.2
 rw[hw.1,(aEP hp (fun z hz=>(hn z hz).1) i).2,cG,List.any_eq_true]
 simp only[bF,eE]
 have hl:=h.1.1
 constructor
 ·rintro⟨z,hz,e⟩
  obtain⟨j,j1,j2,j3⟩:=wkN_mem.mp hz
  rw[au0 h0] at j2
  have:i=1+j:=by omega
  subst this
  exact⟨by omega,by omega,j2⟩
 ·rintro⟨i1,i2,i3⟩
  refine⟨(i:Int),wkN_mem.mpr ⟨i-1,by omega,?_,by omega⟩,by omega⟩
  rw[au0 h0,show (1+((i-1:Nat):Int))=(i:Int) by omega]
  exact i3
theorem avX{m l:Int}(h0:0<=m)(hl:28<=l/\l<=31)(i:Nat):tb (akQ m l) i=(tb m i&&tb (2*2^l.toNat-2) i):=by
 have hp:=aaM l.toNat
 exact acL h0 (by omega) i
theorem aoN{α:Type}(l:List α)(p:α->Bool)(c:Bool):(l.any fun x=>c&&p x)=(c&&l.any p):=by
 induction l with
 |nil=>rw[List.any_nil,List.any_nil,cS]
 |cons x r ih=>rw[bN,bN,ih,Bool.and_or_distrib_left]
theorem agN{α:Type}{p q:α->Bool}:∀{l:List α},(∀x∈l,p x=q x)->l.any p=l.any q
 |[],_=>rfl
 |x::r,h=>by rw[bN,bN,h x (bP ..),agN fun y hy=>h y (bM _ hy)]
theorem aDL{b:Bool}{ms:List Int}{l f:Int}(hm:∀m∈ms,0<=m/\(b=true->m<=127))(h:Lf l f)(i:Nat):tb (Dd b (orM ms) l f) i=ms.any fun m=>tb (Dd b m l f) i:=by
 have h0:∀m∈ms,0<=m:=fun m hz=>(hm m hz).1
 cases b with
 |false=>
  show tb (akQ (orM ms) l) i=ms.any fun m=>tb (akQ m l) i
  rw[avX (ab9 h0) h.1,ab1 h0,Bool.and_comm,←aoN]
  exact agN fun m hz=>by rw[avX (h0 m hz) h.1,Bool.and_comm]
 |true=>
  have e:(2:Int)^7=128:=by decide
  have hM:orM ms<=127:=by
   have:=auH (n:=7) (ms:=ms) fun m hz=>⟨h0 m hz,by have:=(hm m hz).2 rfl;omega⟩
   omega
  show tb (wkD (orM ms) l f) i=ms.any fun m=>tb (wkD m l f) i
  rw[az1 (ab9 h0) hM h,ab1 h0,←aoN,←aoN]
  exact agN fun m hz=>by rw[az1 (h0 m hz) ((hm m hz).2 rfl) h]
theorem aD9{b:Bool}{k:Mk}{m:Int}(hp:k.pl=some m)(hw:k.wk=b)(l f:Int):k.due l f=Dd b m l f:=by
 cases k with
 |num z=>cases hp;cases hw;rfl
 |wkd z=>cases hp;cases hw;rfl
 |lst z=>cases hp
 |nea z=>cases hp
 |wrk=>cases hp
 |nth z y=>cases hp
 |one z=>cases hp
 |nil=>cases hp
theorem am0{b:Bool}(l f:Int)(i:Nat):∀{ks:List Mk},(∀k∈ks,k.wk=b)->(ks.any fun k=>tb (k.due l f) i)=((plK ks).any (fun m=>tb (Dd b m l f) i)||(otK ks).any fun k=>tb (k.due l f) i)
 |[],_=>rfl
 |k::ks,h=>by
  have ih:=am0 l f i (ks:=ks) fun z hz=>h z (bM _ hz)
  have c:=auU k ks
  have hk:=h k (bP ..)
  rw[bN,ih]
  cases e:k.pl with
  |some m=>
   rw[e] at c
   rw[c.1,c.2,bN,aD9 e hk,Bool.or_assoc]
  |none=>
   rw[e] at c
   rw[c.1,c.2,bN]
   cases tb (k.due l f) i<;>cases (plK ks).any _<;>rfl
theorem akU{b:Bool}{ks:List Mk}(h:∀k∈ks,k.sp=true/\k.wk=b/\k.ok):∀k∈asF b ks,k.sp=true/\k.wk=b/\k.ok:=fun k hk=>by
 rcases bV.mp hk with z | z
 ·exact aAT h k z
 ·exact h k ((List.mem_filter.mp z).1)
theorem az2{b:Bool}{ks:List Mk}{l f:Int}(h:∀k∈ks,k.sp=true/\k.wk=b/\k.ok)(hlf:Lf l f):orK (asF b ks) l f=orK ks l f:=by
 refine aEX hlf (fun k hk=>(akU h k hk).2.2) (fun k hk=>(h k hk).2.2) fun i=>?_
 have hp:=aDD h
 rw[am0 l f i fun k hk=>(h k hk).2.1,←aDL hp hlf i]
 unfold asF
 rw[List.any_append]
 congr 1
 unfold ap4
 by_cases c:orM (plK ks)=0
 ·rw[if_pos c,c]
  have:=aDL (b:=b) (ms:=[]) (fun m hm=>nomatch hm) hlf i
  rw[show orM []=0 from rfl] at this
  rw[this]
  rfl
 ·rw[if_neg c]
  cases b with
  |true=>show (tb (wkD _ l f) i||false)=_;rw[Bool.or_false];rfl
  |false=>show (tb (akQ _ l) i||false)=_;rw[Bool.or_false];rfl
end KM
namespace L2
open PySem PySem.Spec PyProof.Rows
section
variable{X:Cx}{f:Addr}{k k':Nat}{ps:List Str}{sp:Sp}{x y e:Expr}{es:List Expr}{t:TA}{tv:TE}{p pos:Pos}
end
section
variable{X:Cx}{C:Addr}{m:Str}{k k':Nat}{ps:List Str}{sp:Sp}{o:Expr}{ta:TE}{apos pos:Pos}
end
section
variable{X:Cx}{body:List Stmt}{tb:TS}{h:ExceptHandler}{hs:List ExceptHandler}{pos:Pos}
theorem aLF(hb:Ss X.nox body tb):S X (.Try body (h::hs) [] [] pos) tb:=by
 refine⟨fun pins s σ H D I hw=>?_⟩
 refine wpAny_Try_except (dX (hb.h pins s σ H D (I.wish _) hw) (fun f s1 q=>?_) fun e s1 hx=>False.elim hx)
 cases f with
 |next=>exact wpAny_execs_nil q.unwish
 |ret v=>exact q.unwish
 |brk=>exact q.unwish
 |cont=>exact q.unwish
end
section
variable{js:List Nat}{σ:St}{tt:TT}{te:TE}{Q:VK}{H1:Hp}
theorem atP{K K':FG}{a:Addr}{xs:List V}(R:Addr->Nat->List V->Hp->Prop)(hm:∀D i l H l',R D i l H->R D i l (upd H D (.lst l')))(hS:∀D i l H H',Same H H'->R D i l H->R D i l H')(hn:xs.length<=sizeLine)(h0:∀D,H1 D=none->R D 0 [] H1)(hq:SqL K H1 a xs)
  (hs:∀(i:Nat) (x:V) (l:List V) (D:Addr) (H2:Hp) (E:V->Hp->Prop) (F:Hp->Prop),xs[i]? =some x->R D i l H2->H1 D=none->Same H1 H2->H2 D=some (.lst l)->(∀y H5,Same H2 H5->R D (i+1) (l++[y]) H5->E y H5)->(∀H4,Same H2 H4->R D (i+1) l H4->F H4)->
   tt (some (.int i)::some x::aa3 js σ) H2 fun b H4=>if b=true then te (some (.int i)::some x::aa3 js σ) H4 E else F H4)
  (hd:∀(D:Addr) (H2:Hp) (l:List V),R D xs.length l H2->H1 D=none->Same H1 H2->H2 D=some (.lst l)->Q (.ref D) H2):
  az6 (Ite K a) 2 js (aBK K' 2 (au7 (ac5 0) (au7 (ac5 1) aFV))) σ tt te Q H1:=by
 intro D hD
 refine⟨fun i m H2=>m=xs.length-i/\i<=xs.length/\Same H1 H2/\∃l,H2 D=some (.lst l)/\l.length<=i/\R D i l H2,⟨xs.length,by simp,bK _,aaB hD _,[],aaA,aS _,hm _ _ _ _ _ (h0 D hD)⟩,?_⟩
 rintro i m H2 ⟨rfl,hi,s2,l,h2,hll,hR⟩
 by_cases hlt:i<xs.length
 ·refine .inr ⟨⟨xs,xs[i],s2.seq hq,by simp[hlt]⟩,fun v H3 y τ hτ=>?_⟩
  obtain⟨T,rfl,hT,ev⟩:=y
  obtain⟨x,hx,rfl⟩:=ev xs (s2.seq hq)
  have sT:=aaB hT (.tup [.int i,x])
  have s3:=s2.trans sT
  have h3:=sT _ _ h2
  obtain⟨t0,t1,rfl⟩:∃t0 t1,τ=[t0,t1]:=by
   match τ,hτ with
   |[a,b],_=>exact⟨a,b,rfl⟩
  have h:=hs i x l D _ (fun y H5=>∃ys,H5 D=some (.lst ys)/\ys.length<sizeLine/\∃m',m'<xs.length-i/\(m'=xs.length-(i+1)/\i+1<=xs.length/\Same H1 (upd H5 D (.lst (ys++[y])))/\∃l,(upd H5 D (.lst (ys++[y]))) D=some (.lst l)/\l.length<=i+1/\R D (i+1) l (upd H5 D (.lst (ys++[y]))))) (fun H4=>∃m',m'<xs.length-i/\(m'=xs.length-(i+1)/\i+1<=xs.length/\Same H1 H4/\∃l,H4 D=some (.lst l)/\l.length<=i+1/\R D (i+1) l H4)) hx (hS _ _ _ _ _ sT hR) hD s3 h3
   (fun z H5 s5 r5=>by
    refine⟨l,s5 _ _ h3,dI hll (a9 hlt hn),xs.length-(i+1),by omega,rfl,hlt,fun b o hb=>?_,l++[z],aaA,by rw[bC,cL];omega,hm _ _ _ _ _ r5⟩
    rw[aaF (aaG hb hD)]
    exact s5 _ _ (s3 _ _ hb))
   (fun H4 s4 r4=>⟨xs.length-(i+1),by omega,rfl,hlt,s3.trans s4,l,s4 _ _ h3,by omega,r4⟩)
  exact⟨T,[.int i,x],rfl,SqT.of aaA,rfl,.int i,[x],rfl,x,[],rfl,rfl,⟨[some (.int i),some x],rfl,rfl⟩,h⟩
 ·have e:i=xs.length:=by omega
  subst e
  exact .inl ⟨⟨xs,s2.seq hq,rfl⟩,hd D H2 l hR hD s2 h2⟩
end
noncomputable def KD(K:FG)(a:Addr)(kvs:List (Int×V)):Prop:=
 ∃(es:Array DictEntry) (ep:Nat) (vs:List (Key×Value)),K.lookup a=some ⟨.type "dict",none,.dict es ep,#[]⟩/\KV (kvs.map fun x=>((Sum.inl x.1:Key),x.2)) vs/\(vs.map (·.1)).Nodup/\∀(P:Program) (w:World),KeysOf (abB P w) es/\PySem.Pairs (abB P w) es.toList vs
noncomputable def aGA(K:FG)(td ty:TE):TE:=fun σ H Q=>td σ H fun x H1=>ty σ H1 fun y H2=>∃a kvs k v,x=.ref a/\KD K a kvs/\y=.int k/\kvs.lookup k=some v/\Q v H2
theorem aDC{k:Int}{v:V}:∀{kvs:List (Int×V)} {vs:List (Key×Value)},KV (kvs.map fun x=>((Sum.inl x.1:Key),x.2)) vs->kvs.lookup k=some v->∃w',valueAt vs (Sum.inl k:Key)=some w'/\RelV v w'
 |[],_,_,h=>by cases h
 |(k0,v0)::r,_,.cons (b:=(k1,w1)) h t,hl=>by
  obtain⟨e1,e2⟩:=h
  have e1:(Sum.inl k0:Key)=k1:=e1
  subst e1
  rw[dE] at hl
  unfold valueAt
  by_cases c:k=k0
  ·subst c
   rw[show (k==k)=true from beq_self_eq_true k] at hl
   cases hl
   refine⟨w1,?_,e2⟩
   rw[List.find?_cons_of_pos (by simp)]
   rfl
  ·rw[show (k==k0)=false from beq_false_of_ne c] at hl
   obtain⟨w',h1,h2⟩:=aDC t hl
   refine⟨w',?_,h2⟩
   rw[List.find?_cons_of_neg (by simp;exact fun z=>c z.symm)]
   exact h1
section
variable{X:Cx}{o i:Expr}{td ty:TE}{pos:Pos}
theorem eDgK(ho:E X o td)(hi:E X i ty)(hs:aA7 i:=by intro _ _;rfl):E X (.Subscript o i pos) (aGA X.K td ty):=by
 refine⟨fun pins s σ H Q I h=>?_⟩
 refine av0 PySem.F.slot_dict_getitem.lookup hs (thn (ho.h pins s σ H _ I h) fun u s1 ⟨x,H1,I1,rx,q1⟩=>thn (hi.h pins s1 σ H1 _ I1 q1) fun iv s2 ⟨y,H2,I2,ry,a,kvs,k,v,ex,hk,ey,l,q2⟩=>?_)
 subst ex
 subst ey
 obtain rfl:u=Value.ref a:=rx
 obtain⟨es,ep,vs,lk,kv,nd,kp⟩:=hk
 obtain⟨k1,k2⟩:=kp X.prog X.w
 have dd:s2.heap.DictOf (abB X.prog X.w) a vs:=⟨_,es,ep,I2.kIn _ _ lk,⟨rfl,rfl,rfl⟩,rfl,k1,k2,nd⟩
 obtain⟨w',hw,rw'⟩:=aDC kv l
 exact⟨dd.typeIs,wpAny_getItem_of (ap8 (k:=Sum.inl k) ry) dd.mapOf hw ⟨v,H2,I2.tok _,rw',q2⟩⟩
end
end L2
namespace KM
open PySem PySem.Spec PyProof.Rows L2
theorem asO{ks:List Mk}{l f:Int}(h:Lf l f)(o:∀k∈ks,k.ok):0<=orK ks l f:=ab9 fun m hm=>by
 obtain⟨k,hk,rfl⟩:=bL.mp hm
 exact apR (o k hk) h
noncomputable def DV(c:Cs)(H:Hp)(v:V):Option (List Mk)->Prop
 |none=>v=.non
 |some ks=>∃p qs,v=.ref p/\H p=some (.lst (qs.map V.ref))/\Ft (MkAt c H) qs ks/\∀k∈ks,k.ok
theorem DV.keep{c:Cs}{H H':Hp}(s:Same H H'){v:V}:∀{ko:Option (List Mk)},DV c H v ko->DV c H' v ko
 |none,h=>h
 |some _,⟨p,qs,e,h1,h2,h3⟩=>⟨p,qs,e,s _ _ h1,h2.keepM s.keep,h3⟩
noncomputable def orO(ko:Option (List Mk))(a l f:Int):Int:=match ko with
 |none=>a
 |some ks=>Builtin.bitOr a (orK ks l f)
noncomputable def aaY(kd kw:Option (List Mk))(l f:Int):Int:=if kd.isNone=true/\kw.isNone=true then 2*2^l.toNat-2 else orO kw (orO kd 0 l f) l f
noncomputable def DT(b:Bool)(t:List Nat)(ko:Option (List Mk)):Prop:=(32∉t/\t≠[])/\ItemsOk b (lo_ b) (hi_ b) t/\match ko with
 |none=>t=[42]
 |some ks=>t≠[42]/\(∀k∈ks,k.sp=true/\k.wk=b/\k.ok)/\aj2 b (lo_ b) (hi_ b) t=asF b ks
noncomputable def gO(b:Bool):Option (List Mk)->Option (List Mk)
 |none=>none
 |some ks=>some (asF b ks)
theorem aDW{b:Bool}{t:List Nat}{ko:Option (List Mk)}(h:DT b t ko){a l f:Int}(hl:Lf l f):orO (gO b ko) a l f=orO ko a l f:=by
 cases ko with
 |none=>rfl
 |some ks=>
  show Builtin.bitOr a (orK (asF b ks) l f)=Builtin.bitOr a (orK ks l f)
  rw[az2 h.2.2.2.1 hl]
theorem au5(b:Bool)(ko:Option (List Mk)):(gO b ko).isNone=ko.isNone:=by cases ko<;>rfl
theorem auX{t u:List Nat}{kd kw:Option (List Mk)}(hd:DT false t kd)(hw:DT true u kw){l f:Int}(hl:Lf l f):aaY (gO false kd) (gO true kw) l f=aaY kd kw l f:=by
 unfold aaY
 rw[au5,au5,aDW hd hl,aDW hw hl]
theorem ahI{c d:Nat}(hcd:c≠d):∀{ws:List (List Nat)},(∀w∈ws,c∉w)->c∉aaW d ws
 |[],_=>cA
 |[w],h=>h w (bP ..)
 |w::v::ws,h=>by
  show c∉w++d::aaW d (v::ws)
  rw[bV,aY,not_or,not_or]
  exact⟨h w (bP ..),hcd,ahI hcd fun z hz=>h z (bM _ hz)⟩
theorem auW:∀{ws:List (List Nat)},ws≠[]->(∀w∈ws,w≠[])->∀d,aaW d ws≠[]
 |[],h,_,_=>absurd rfl h
 |[w],_,h,_=>h w (bP ..)
 |w::v::ws,_,h,d=>fun e=>by
  have e:w++d::aaW d (v::ws)=[]:=e
  rw[List.append_eq_nil_iff] at e
  cases e.2
theorem avI(b:Bool):DT b [42] none:=by
 refine⟨by decide,?_,rfl⟩
 have c:Cl [42]/\SpT b [42] (if b=true then .wkd 127 else .num 4294967294):=by
  cases b with
  |true=>exact⟨by decide,rfl,255,by decide +kernel,by decide,by decide +kernel⟩
  |false=>exact⟨by decide,rfl,by decide +kernel,by decide⟩
 exact (aDP (.cons c .nil:Ws b [[42]] _) (c5 _ _) (by show 1<=20;decide)).2
structure FT(lo hi:Int)(t:List Nat)(m:Int):Prop where
 ok:avS lo hi t
 len:t.length<=300
 is:orM (adE lo hi t)=m
 sp:32∉t
 ne:t≠[]
 nn:0<=m
theorem ak0{lo hi:Int}{ws:List (List Nat)}{nss:List (List Int)}(h:Paired (agY lo hi) ws nss)(hne:ws≠[])(hn:ws.length<=20):FT lo hi (aaW 44 ws) (aaO nss.flatten):=by
 have all:∀{ws:List (List Nat)} {nss:List (List Int)},Paired (agY lo hi) ws nss->(∀w∈ws,Cl w/\(aaI lo hi w).isSome=true)/\(ws.map fun w=>(aaI lo hi w).getD 0)=nss.map aaO:=by
  intro ws nss h
  induction h with
  |nil=>exact⟨fun w hw=>(nomatch hw),rfl⟩
  |cons r t ih=>
   refine⟨fun w hw=>?_,?_⟩
   ·rcases aY.mp hw with z | z
    ·subst z;exact⟨r.2.1,by rw[r.1];rfl⟩
    ·exact ih.1 w z
   ·rw[bG,bG,ih.2,r.1];rfl
 have a:=all h
 have hs:=aeH 44 ws hne fun w hw=>(a.1 w hw).1.1.1
 have hl:=agV ws fun w hw=>(a.1 w hw).1.2.2
 refine⟨⟨by rw[hs];omega,by rw[hs];exact fun w hw=>(a.1 w hw).2⟩,by omega,?_,ahI (by decide) fun x hx=>(a.1 x hx).1.1.2,auW hne (fun x hx=>(a.1 x hx).1.2.1) 44,acH _⟩
 unfold adE
 rw[hs,a.2]
 have nn:∀m∈nss.map aaO,0<=m:=fun m hm=>by
  obtain⟨z,_,rfl⟩:=bL.mp hm
  exact acH _
 refine abM (ab9 nn) (acH _) fun i=>?_
 rw[ab1 nn,abW,List.any_map,List.any_flatten]
 exact agN fun z _=>abW z i
end KM
namespace L2
open PySem PySem.Spec PyProof.Rows
section
open PySem.W Builtin Builtin.ObjectAttr
variable{prog:Program}{w:World}{A:Around}{E:Value->Shared->Prop}{s:Shared}{K:FG}{x C:Addr}{f:Str}{v:Value}{o:Obj}{vs:Array Value}
end
noncomputable def PY(e C:Addr)(d:Option Addr)(h:Heap):Prop:=∃(vs:Array Value) (sl:Array (Option Value)),h.get? e=some ⟨.ref C,d,.fields vs,sl⟩/\vs[1]? =some .none/\vs[2]? =some .none/\4<vs.size
noncomputable def xn(a C:Addr)(d:Option Addr):HO:=.ext (PY a C d)
theorem PY.ok{P:Program}{w:World}{H:Hp}{h:Heap}{a C:Addr}{d:Option Addr}(x:PY a C d h):ObjOk P w H h a (xn a C d):=by
 obtain⟨vs,sl,e,r⟩:=id x
 exact⟨x,⟨_,e⟩,fun h1 h2 ⟨vs,sl,e,r⟩ k=>⟨vs,sl,k _ e,r⟩⟩
section
variable{X:Cx}{pins:List (Addr×Obj)}{σ:St}{H:Hp}{s:Shared}{a C:Addr}{f:Str}
end
section
variable{X:Cx}{o e value:Expr}{ta tv:TE}{f:Str}{pos pos':Pos}
end
section
open PySem.W
variable{prog:Program}{w:World}{A:Around}{E:Value->Shared->Prop}{s:Shared}{K:FG}{C fI:Addr}
end
section
variable{X:Cx}{pins:List (Addr×Obj)}{σ:St}{H:Hp}{s:Shared}
end
section
variable{prog:Program}{w:World}{A:Around}{E:Value->Shared->Prop}{s:Shared}{env:Env}
end
section
variable{X:Cx}{E:XK}{x:Str}{C:Addr}{e:Expr}{es:List Expr}{t:TA}{np cpos pos:Pos}{k k':Nat}{ps:List Str}{sp:Sp}
end
structure RoomQ(k:Nat)(A:Around):Prop where
 dp:A.depth+3*k+5<recursionLimit
 un:A.units+16*k+200<cLine
theorem Room.q{k:Nat}{A:Around}(r:Room k A):RoomQ k A:=⟨r.dp,r.un⟩
section
variable{P:Program}{w:World}{K:FG}{mg:Str->Option Value}{base:Heap}{N ps:List Str}{qual:Str}{scope:Scope}{f:Addr}{cd:Value}{A:Around}{outer:List Env}{s s1:Shared}{H:Hp}{us:List Value}{vs:List V}
end
section
variable{P:Program}{w:World}{K:FG}{mg:Str->Option Value}{base:Heap}{x:Str}{st:Stmt}{ps N:List Str}{k:Nat}{sp:Sp}
end
section
variable{X:Cx}{k k':Nat}{ps:List Str}{sp:Sp}{x:Str}{e:Expr}{es:List Expr}{tA:TA}{p pos:Pos}
end
section
variable{X:Cx}{f:Addr}{k k':Nat}{ps:List Str}{sp:Sp}{x y e:Expr}{es:List Expr}{tA:TA}{tv:TE}{p pos:Pos}{t u:TX}
end
section
variable{M:Model}{A:Around}{E:Value->Shared->Prop}{s:Shared}{f:Obj->Prop}{B:Heap}{env:Env}{outer:List Env}{L e:Addr}{fl:Value}{Q:Unit->Shared->Prop}
end
section
variable{P:Program}{w:World}{K:FG}{mg:Str->Option Value}{base:Heap}{N:List Str}{qual:Str}{scope:Scope}{f:Addr}{cd:Value}{A:Around}{outer:List Env}{s0:Shared}{H0:Hp}{E:XK}
end
section
variable{X:Cx}{elt iter tg:Expr}{xs:List Str}{pos:Pos}{ifs:List Expr}{scope:Scope}{cl:List (Str×Addr)}{N':List Str}{js:List Nat}{tt:TT}{g:TG}{wi:TI}
end
section
variable{P:Program}{w:World}{K:FG}{mg:Str->Option Value}{base:Heap}{N:List Str}{qual:Str}{scope0:Scope}{f:Addr}{cd:Value}{A:Around}{outer:List Env}{s0:Shared}{H0:Hp}{E:XK}
variable{elt iter tg:Expr}{pos:Pos}{ifs:List Expr}{scope:Scope}{js:List Nat}{tt:TT}{te:TX}{g:TG}{wi:TI}
end
section
variable{js:List Nat}{σ:St}{tt:TT}{te:TX}{E:XK}{Q:VK}{H1:Hp}
end
section
variable{P:Program}{w:World}{K:FG}{mg:Str->Option Value}{base:Heap}{m qual:Str}{st:Stmt}{ps N:List Str}{k:Nat}{sp:Sp}{C:Addr}
end
section
variable{X:Cx}{pins:List (Addr×Obj)}{σ:St}{H:Hp}{s:Shared}
end
section
variable{X:Cx}{E:XK}{x:Str}{C a:Addr}{e:Expr}{es:List Expr}{t:TA}{np cpos pos p2:Pos}{j k k':Nat}{ps:List Str}{sp:Sp}
end
theorem RoomQ.units{k:Nat}{A:Around}(r:RoomQ k A):A.units+64<cLine:=by have:=r.un;omega
section
variable{prog:Program}{w:World}{A:Around}{E:Value->Shared->Prop}{s:Shared}
end
section
variable{X:Cx}{elt iter:Expr}{x:Str}{px pos:Pos}{ifs:List Expr}{scope:Scope}{cl:List (Str×Addr)}{N':List Str}{js:List Nat}{tt:TT}{te:TE}
end
section
variable{X:Cx}{elt a1:Expr}{x:Str}{px pos p rpos:Pos}{ifs:List Expr}{scope:Scope}{js:List Nat}{tt:TT}{te:TE}{tA:TA}
end
section
variable{X:Cx}{pins:List (Addr×Obj)}{σ:St}{H:Hp}{s:Shared}
end
section
variable{X:Cx}{body suite:List Stmt}{b0:Stmt}{tb:TB}{th:Addr->TS}{cx n:Str}{np hpos pos:Pos}{CF:Addr}
end
section
variable{X:Cx}{E:XK}{x:Str}{C:Addr}{np cpos pos:Pos}
end
end L2
namespace L2
open PySem PySem.Spec PyProof.Rows PySem.SeqAt
section
variable{X:Cx}
end
section
variable{P:Program}{w:World}{K:FG}{mg:Str->Option Value}{base:Heap}{m qual:Str}{st:Stmt}{ps N:List Str}{k:Nat}{sp:Sp}{C:Addr}
end
section
variable{X:Cx}{x:Str}{C:Addr}{k k':Nat}{ps:List Str}{sp:Sp}{e:Expr}{es:List Expr}{t:TA}{p pos:Pos}{E:XK}
end
end L2
namespace L2
open PySem PySem.Spec PyProof.Rows PySem.SeqAt
section
variable{X:Cx}{m:Str}{C:Addr}{k:Nat}{ps:List Str}{sp:Sp}{o:Expr}{ta:TE}{pos apos:Pos}
end
section
variable{X:Cx}
end
theorem aB3{K:FG}{H H':Hp}{v:V}{t:Value}(s:Same H H')(h:TyOf K H v t):TyOf K H' v t:=by
 cases h with
 |non=>exact .non
 |bl x=>exact .bl x
 |int i=>exact .int i
 |str x=>exact .str x
 |flt x=>exact .flt x
 |lst e=>exact .lst (s _ _ e)
 |frz e=>exact .frz (s _ _ e)
 |tup e=>exact .tup (s _ _ e)
 |dK e=>exact .dK (s _ _ e)
 |dT e=>exact .dT (s _ _ e)
 |ins e c a n k m=>exact .ins (s _ _ e) c a n k m
noncomputable def IsB(K:FG)(C:Addr)(H:Hp)(v:V)(b:Bool):Prop:=∃t,TyOf K H v t/\PySem.W.kitOne K t (.ref C)=some b
theorem IsB.keep{K:FG}{C:Addr}{H H':Hp}{v:V}{b:Bool}(h:IsB K C H v b)(s:Same H H'):IsB K C H' v b:=by
 obtain⟨t,h1,h2⟩:=h
 exact⟨t,aB3 s h1,h2⟩
theorem adC{α β:Type}{F:α->β->Prop}:∀{l:List α} {r:List β},Paired F l r->∀v∈l,∃b,F v b
 |_,_,.nil,v,h=>nomatch h
 |_,_,.cons f t,v,h=>(aY.mp h).elim (fun e=>by rw[e];exact⟨_,f⟩) fun z=>adC t v z
noncomputable def tCut(t u:TS):TS:=fun D σ H=>∃I:St->Hp->Prop,t {D with nx:=I} σ H/\∀σ' H',I σ' H'->u D σ' H'
theorem ssK{X:Cx}{st:Stmt}{rest:List Stmt}{t u:TS}(h1:S X st t)(h2:Ss X rest u):Ss X (st::rest) (tCut t u):=by
 refine⟨fun pins s σ H D I h=>?_⟩
 obtain⟨J,h,hJ⟩:=h
 refine wpAny_execs_cons (thn (h1.h pins s σ H {D with nx:=J} I h) fun f s1 q=>?_)
 cases f with
 |next=>
  obtain⟨σ',H',I',q⟩:=q
  exact h2.h pins s1 σ' H' D I' (hJ _ _ q)
 |ret v=>exact q
 |brk=>exact q
 |cont=>exact q
section
variable{X:Cx}{es:List Expr}{kk:Nat}{tpos:Pos}
end
section
variable{js:List Nat}{σ:St}{tt:TT}{te:TE}{Q:VK}{H1:Hp}
end
theorem eFlc{X:Cx}{K:FG}{e:Expr}{f:Str}{ta:TE}{pos:Pos}(he:E X e ta)(hK:X.K=K:=by rfl)(hb:attributeBase e f X.env (eval e X.env)=eval e X.env:=by rfl):E X (.Attribute e f pos) (aEG K ta f):=hK▸eFl he hb
section
variable{js:List Nat}{σ:St}{tt:TT}{te:TE}{Q:VK}{H1:Hp}
end
section
variable{prog:Program}{w:World}{A:Around}{E:Value->Shared->Prop}{s:Shared}
end
section
variable{X:Cx}{es:List Expr}{kk:Nat}{tpos:Pos}
end
theorem aQE{X:Cx}(hu:X.A.units+64<cLine):Op2 X (compareOp .NotEq) (fun x y H Q=>∃(a b:Addr) (vs:List V),x=.ref a/\y=.ref b/\SqL X.K H a vs/\SqL X.K H b []/\Q (.bl (decide (vs≠[]))) H):=by
 refine⟨fun pins s σ H x y v u Q I rx ry h=>?_⟩
 obtain⟨a,b,vs,rfl,rfl,ha,hb,q⟩:=h
 cases rx
 cases ry
 obtain⟨its,rv,pl,_⟩:=I.list ha
 obtain⟨its',rv',pl',_⟩:=I.list hb
 cases rv'
 have e:=rv.length
 cases vs with
 |nil=>
  cases rv
  refine SeqAt.RcNeAt.lists (e:=fun _=>true) pl.isList pl'.isList rfl (by omega) (fun i h1 h2=>SeqAt.EqAt.same _) _ _ _ _ ?_
  exact⟨.bl false,H,I,by show Value.bool _=Value.bool false;congr 1,q⟩
 |cons v0 vs=>
  refine SeqAt.RcNeAt.lists_lengths pl.isList pl'.isList (by rw[bJ,←e];rfl) (by omega) _ _ _ _ ?_
  exact⟨.bl true,H,I,rfl,q⟩
end L2
namespace L2
open PySem PySem.Spec PyProof.Rows PySem.SeqAt
noncomputable abbrev Tri:=Int×Int×Int
noncomputable def aBE(p:Tri):PyData:=.tuple [.int p.1,.int p.2.1,.int p.2.2]
noncomputable def aEA(l:List Tri):PyData:=.list (l.map aBE)
section
variable{X:Cx}
theorem aDS:∀ns ms:List Tri,PySem.Spec.sameAll (ns.map aBE) (ms.map aBE)=decide (ns=ms)
 |[],[]=>by simp[PySem.Spec.sameAll]
 |[],_::_=>by simp[PySem.Spec.sameAll]
 |_::_,[]=>by simp[PySem.Spec.sameAll]
 |(a,b,c)::r,(x,y,z)::q=>by
  simp only[bG,aBE,PySem.Spec.sameAll,PySem.Spec.same,aDS r q]
  by_cases h1:a=x<;>by_cases h2:b=y<;>by_cases h3:c=z<;>simp[h1,h2,h3]
theorem abP:∀ns ms:List (List Tri),PySem.Spec.sameAll (ns.map aEA) (ms.map aEA)=decide (ns=ms)
 |[],[]=>by simp[PySem.Spec.sameAll]
 |[],_::_=>by simp[PySem.Spec.sameAll]
 |_::_,[]=>by simp[PySem.Spec.sameAll]
 |a::r,b::q=>by
  simp only[bG,aEA,PySem.Spec.sameAll,PySem.Spec.same,aDS a b,abP r q]
  by_cases h1:a=b<;>simp[h1]
end
section
variable{X:Cx}
end
noncomputable def SameBut(S:Addr->Prop)(H H':Hp):Prop:=∀b o,H b=some o->¬S b->H' b=some o
theorem SameBut.trans{S:Addr->Prop}{H H1 H2:Hp}(a:SameBut S H H1)(b:SameBut S H1 H2):SameBut S H H2:=fun c o h n=>b c o (a c o h n) n
theorem SameBut.seq{S:Addr->Prop}{K:FG}{H H':Hp}{a:Addr}{xs:List V}(e:SameBut S H H')(n:∀o,H a=some o->¬S a)(h:SqL K H a xs):SqL K H' a xs:=by
 rcases h with (h | ⟨o,h⟩) | h
 ·exact .inl (.inl (e _ _ h (n _ h)))
 ·exact .inl (.inr ⟨o,e _ _ h (n _ h)⟩)
 ·exact .inr h
theorem fsc{N P:List Str}{sc:Scope}(h1:sc.kind=.function:=by rfl)(h2:sc.isCoroutine=false:=by rfl)(h3:sc.isGenerator=false:=by rfl)(h4:N.Nodup:=by decide +kernel)(h5:N.take P.length=P:=by rfl)(h6:∀x∈P,sc.names.lookup x=some .local∨sc.names.lookup x=some .cell:=by decide +kernel)(h7:∀y∈sc.names,y.2≠ .free:=by decide +kernel):FnScope N P sc:=⟨h1,h2,h3,h4,h5,h6,h7⟩
theorem zL(n:Nat)(h:n<=100:=by decide):n<=sizeLine:=by rw[dZ];omega
section
variable{X:Cx}
noncomputable def aIL(i j:Int):Prop:=0<=j/\j<=1000000/\i.natAbs<2^1440
theorem aAW:OpR X (binaryOp .LShift) (rI aIL fun i j=>.int (i*2^j.toNat)):=opI fun i j _ _ _ _ _ hc q=>lshift_int hc.1 (by
 have hb:Builtin.Int.intBits i<=1440:=intBits_le hc.2.2
 have:=hc.2.1
 omega) q
theorem aDE:Op2 X (binaryOp .LShift) (rI aIL fun i j=>.int (i*2^j.toNat)):=⟨aAW⟩
end
end L2
namespace L2
open PySem PySem.Spec PyProof.Rows PySem.W
noncomputable def ab4(a:Addr)(o:Obj):HO:=.ext fun h=>h.get? a=some o
noncomputable def alX(c:Addr)(qual:Str):HO:=.ext fun h=>h.CodeRec (.ref c) qual
noncomputable def era(H:Hp)(a:Addr):Hp:=fun b=>if b=a then none else H b
theorem abU{H:Hp}{a:Addr}:era H a a=none:=if_pos rfl
theorem aaR{H:Hp}{a b:Addr}(h:b≠a):era H a b=H b:=if_neg h
theorem aoQ{H:Hp}{a b:Addr}{o:HO}(h:era H a b=some o):b≠a/\H b=some o:=by
 by_cases e:b=a
 ·rw[e,abU] at h;cases h
 ·rw[aaR e] at h;exact⟨e,h⟩
section
variable{P:Program}{w:World}{H:Hp}{h:Heap}{a:Addr}{o:HO}
theorem HOk.era_(x:HOk P w H h)(no:∀z,H a≠some (.own z))(nt:∀xs,H a≠some (.tup xs)):HOk P w (era H a) h:=fun b u e=>by
 obtain⟨hb,e⟩:=aoQ e
 refine (x b u e).stay (fun _ _ _ q=>q) (fun c q=>?_) fun c xs q=>?_
 ·by_cases z:c=a
  ·exact absurd (z▸q) (no b)
  ·rw[aaR z];exact q
 ·by_cases z:c=a
  ·exact absurd (z▸q) (nt xs)
  ·rw[aaR z];exact q
theorem HOk.track(x:HOk P w H h)(hn:H a=none)(new:ObjOk P w (upd H a o) h a o):HOk P w (upd H a o) h:=fun b u e=>by
 by_cases hb:b=a
 ·subst hb;rw[aaA] at e;cases e;exact new
 ·rw[aaF hb] at e
  exact (x b u e).stay (fun _ _ _ q=>q) (fun c q=>by rw[aaF (aaG q hn)];exact q) fun c xs q=>by rw[aaF (aaG q hn)];exact q
theorem ar6{ob:Obj}(e:h.get? a=some ob):ObjOk P w H h a (ab4 a ob):=⟨e,⟨ob,e⟩,fun h1 h2 e1 k=>k _ e1⟩
theorem ajV{ob:Obj}(x:HOk P w H h)(e:H a=some (ab4 a ob)):h.get? a=some ob:=(x a _ e).1
theorem aEY{q:Str}(x:HOk P w H h)(e:H a=some (alX a q)):h.CodeRec (.ref a) q:=(x a _ e).1
end
noncomputable def acW(P:Program)(w:World)(K:Frag)(mg:Str->Option Value)(base:Heap)(N:List Str)(qual:Str)(scope:Scope)(L f c':Addr)(cl:List (Str×Addr))(A:Around)(outer:List Env)(s:Shared)(H:Hp):Cx where
 prog:=P
 w:=w
 K:=K
 mg:=mg
 base:=base
 A:=A.deeper (envX qual scope L f (.ref c') cl)
 N:=N
 s₀:=s
 H₀:=H
 env:=envX qual scope L f (.ref c') cl
 outer:=outer
 stack:=envX qual scope L f (.ref c') cl::outer
 ex:=[]
 fn:=fun _=>false
 calm:=true
 pn:=[]
 xe:=fun _ _=>False
structure LamScope(x y:Str)(scope:Scope):Prop where
 kind:scope.kind=.function
 co:scope.isCoroutine=false
 gen:scope.isGenerator=false
 nocell:∀z∈scope.names,z.2≠ .cell
 par:scope.names.lookup x=some .local
 fre:scope.names.lookup y=some .free
 only:∀z∈scope.names,z.2=.free->z.1=y
 ne:x≠y
theorem av5{P:Program}{w:World}{K:Frag}{mg:Str->Option Value}{base:Heap}{x y:Str}{qual:Str}{scope:Scope}{f c' a:Addr}{A:Around}{outer:List Env}{s s1:Shared}{H:Hp}{u u0:Value}{v v0:V}{o0:Obj}{h1:Heap}{tk:Tok}
  (S:LamScope x y scope) (hd:A.handled=none) (e0:Env0 P w K mg base A outer s H) (ha:H a=some (ab4 a o0)) (ho:o0.data=.cell (some u0)) (r0:RelV v0 u0) (r:RelV v u)
  (hns:h1.Ns s.heap.objs.size (fun z=>[(x,u)].reverse.lookup z)) (hk:∀b o,s.heap.get? b=some o->h1.get? b=some o) (hs:s1={s with heap:=h1,toks:=tk}):
  Inv (acW P w K mg base [x,y] qual scope s.heap.objs.size f c' [(y,a)] A outer s (era H a)) [] [some v,some v0] (era H a) s1:=by
 subst hs
 have hao:=ajV e0.hok ha
 have noA:∀b:Addr,b∉(acW P w K mg base [x,y] qual scope s.heap.objs.size f c' [(y,a)] A outer s (era H a)).ex:=fun b z=>absurd (show b∈([]:List Addr) from z) (by simp)
 have one:∀z c,([(y,a)]:List (Str×Addr)).lookup z=some c->z=y/\c=a:=fun z c e=>by
  have m:=PySem.mem_of_lookup e
  have:=bE.mp m
  exact⟨congrArg Prod.fst this,congrArg Prod.snd this⟩
 have ly:([(y,a)]:List (Str×Addr)).lookup y=some a:=by simp
 have fr:∀b,H b=none->era H a b=none:=fun b e=>by
  by_cases z:b=a
  ·rw[z];exact abU
  ·rw[aaR z];exact e
 have hok':HOk P w (era H a) s.heap:=e0.hok.era_ (fun z e=>by rw[ha] at e;cases e) (fun xs e=>by rw[ha] at e;cases e)
 have cell:h1.IsCell a (some u0):=⟨o0,hk _ _ hao,ho⟩
 refine⟨⟨e0.mod,S.kind,rfl,rfl,aS _,fun z1 z2 c q1 q2=>(one z1 c q1).1.trans (one z2 c q2).1.symm,fun z hz=>?_,(fun z c q _=>nomatch q),fun _=>hd,Around.frames_deeper e0.frames,.inr ⟨rfl,rfl⟩,fun b z=>absurd z (noA b),fun b o e=>⟨(e0.bs b o e).1,fr b (e0.bs b o e).2⟩,e0.bsz,fun b _ _=>noA b,fun b z=>absurd z (noA b),e0.funs,fun b hb=>fr b (e0.frf b hb)⟩,
  rfl,e0.bare,Un.kept hk,⟨_,hns,fun i z v' q1 q2 q3=>?_⟩,fun z c q=>?_,fr _ (e0.hok.fresh (aS _)),fun z c q=>?_,fun p hp=>absurd (show p∈([]:List (Addr×Obj)) from hp) (by simp),hok'.kept hk,rfl⟩
 ·have hz:scope.names.lookup z=some .cell∨scope.names.lookup z=some .free:=hz
  rcases hz with hz | hz
  ·exact absurd rfl (S.nocell _ (PySem.mem_of_lookup hz))
  ·have:=S.only _ (PySem.mem_of_lookup hz) rfl
   exact⟨a,by show ([(y,a)]:List (Str×Addr)).lookup z=_;rw[show z=y from this];exact ly⟩
 ·match i,q1,q2 with
  |0,q1,q2=>
   cases q1
   cases q2
   exact⟨u,r,.inl ⟨S.par,by show ([(x,u)]:List (Str×Value)).reverse.lookup x=some u;simp⟩⟩
  |1,q1,q2=>
   cases q1
   cases q2
   exact⟨u0,r0,.inr ⟨.inr S.fre,a,ly,cell⟩⟩
  |i+2,q1,_=>exact nomatch q1
 ·obtain⟨_,rfl⟩:=one z c q
  exact⟨_,cell⟩
 ·obtain⟨_,rfl⟩:=one z c q
  exact abU
theorem aER{P:Program}{w:World}{K:Frag}{mg:Str->Option Value}{base:Heap}{k:Nat}{x y:Str}{name qual:Str}{params:Arguments}{body:Expr}{scope:Scope}{pm ctv:Value}{f c' a:Addr}{A:Around}{outer:List Env}{s:Shared}{H:Hp}{args:Args}{u u0:Value}{v v0:V}{o0:Obj}{Q:VK}{E:XK}{t:TE}
  (S:LamScope x y scope) (hr:Room (k+1) A) (e0:Env0 P w K mg base A outer s H) (hb:BindsTo s (kla_fn name qual params body scope [(y,a)] pm (.ref c') ctv) args [(x,u)]) (r:RelV v u)
  (hf:H f=some (ab4 f (kla_obj name qual params body scope [(y,a)] pm c' ctv))) (hc:H c'=some (alX c' qual)) (ha:H a=some (ab4 a o0)) (ho:o0.data=.cell (some u0)) (r0:RelV v0 u0)
  (hbody:L2.E (acW P w K mg base [x,y] qual scope s.heap.objs.size f c' [(y,a)] A outer s (era H a)) body t)
  (h:t [some v,some v0] (era H a) fun v' H'=>H' a=none->Q v' (upd H' a (ab4 a o0))):
  codeAny (model P w) A (.call (.ref f) args) (CR CX0 outer P w H s Q E) s:=by
 have lim:s.heap.NoLimit:=e0.mod.nolimit.keeps fun b o e=>(e0.bs b o e).1
 refine kla_callFunE (by have:=hr.dp;omega) (ajV e0.hok hf) rfl S.co S.gen rfl (aEY e0.hok hc) (hb _ _ _ _ ?_)
 refine wpAny_newFunctionEnv S.nocell (fun z hz=>by rw[bE.mp hz];exact S.par) (fun h₁ hns hsb=>⟨lim.fresh _ hsb,?_⟩) S.kind
 show codeAny _ _ (.expr body (envX qual scope s.heap.objs.size f (.ref c') [(y,a)])) _ _
 have hk₁:∀b o,s.heap.get? b=some o->h₁.get? b=some o:=fun b o e=>hsb.extBut b o (aX (aV e)) (aW _ e)
 refine kla_codeExpr ?_
 have I:=av5 (f:=f) (c':=c') (qual:=qual) (tk:=s.toks+([(x,u)]:List (Str×Value)).length) S hr.hd e0 ha ho r0 r hns hk₁ rfl
 refine dX (hbody.h [] _ _ _ _ I h) (fun v' s' hq=>?_) fun e s' hq=>hq.elim
 obtain⟨z,H',J,rz,q⟩:=hq
 have hao:=ajV e0.hok ha
 -- the cell is as it was
 have ca:s'.heap.get? a=some o0:=J.base.keep a o0 hao abU (fun hb=>by
  have:=e0.frf a hb
  rw[ha] at this
  cases this) (by simp[acW])
 refine⟨z,upd H' a (ab4 a o0),J.os,J.bare,⟨fun b o e n hb hx=>?_,fun b o e n hb hx=>?_,fun b o e n hx=>?_,fun b o e hx=>J.base.there b o e hx,fun b xs e=>?_,fun b o u e=>?_,fun b ps e=>?_⟩,J.hok.track (J.base.free a o0 hao abU (by simp[acW])) (ar6 ca),rz,q (J.base.free a o0 hao abU (by simp[acW]))⟩
 all_goals have na:b≠a:=fun z=>by (first | (rw[z,ha] at n;cases n) | (rw[z,ha] at e;cases e))
 ·exact J.base.keep b o e (by rw[show (acW P w K mg base [x,y] qual scope s.heap.objs.size f c' [(y,a)] A outer s (era H a)).H₀=era H a from rfl,aaR na];exact n) hb hx
 ·exact J.base.slot b o e (by rw[show (acW P w K mg base [x,y] qual scope s.heap.objs.size f c' [(y,a)] A outer s (era H a)).H₀=era H a from rfl,aaR na];exact n) hb hx
 ·rw[aaF na]
  exact J.base.free b o e (by rw[show (acW P w K mg base [x,y] qual scope s.heap.objs.size f c' [(y,a)] A outer s (era H a)).H₀=era H a from rfl,aaR na];exact n) hx
 ·rw[aaF na]
  exact J.base.tups b xs (by rw[show (acW P w K mg base [x,y] qual scope s.heap.objs.size f c' [(y,a)] A outer s (era H a)).H₀=era H a from rfl,aaR na];exact e)
 ·rw[aaF na]
  exact J.base.frzs b o u (by rw[show (acW P w K mg base [x,y] qual scope s.heap.objs.size f c' [(y,a)] A outer s (era H a)).H₀=era H a from rfl,aaR na];exact e)
 ·obtain⟨more,z⟩:=J.base.tbls b ps (by rw[show (acW P w K mg base [x,y] qual scope s.heap.objs.size f c' [(y,a)] A outer s (era H a)).H₀=era H a from rfl,aaR na];exact e)
  exact⟨more,by rw[aaF na];exact z⟩
end L2
namespace L2
open PySem PySem.Spec PyProof.Rows PySem.W
structure FnC(K:Frag)(mg:Str->Option Value)(x:Str)(st:Stmt)(ps:List Str)(c:Addr):Prop where
 ex:∃(f:Addr) (oc:Value) (od:Option Addr) (kV doc pm:Value) (an:Option Addr) (ct:Value) (osl:Array (Option Value)),
  K.lookup f=some ⟨oc,od,.func (fnOf x x (aa5 st) (aaV st) (aaC st) .none kV doc pm an (.ref c) ct),osl⟩/\codeIn K (.ref c) x=true/\keepIn K (.ref f)=true/\Binds K (fnOf x x (aa5 st) (aaV st) (aaC st) .none kV doc pm an (.ref c) ct) ps []/\mg x=some (.ref f)
section
variable{P:Program}{w:World}{K:Frag}{mg:Str->Option Value}{base:Heap}{x:Str}{st:Stmt}{ps N:List Str}{k:Nat}{sp:Sp}{c:Addr}
theorem FnC.dfs(F:FnC K mg x st ps c)(S':FnScope N ps (aaC st))(len:∀vs H Q E,sp vs H Q E->vs.length=ps.length)
  (hbody:∀(f:Addr) (A:Around) (outer:List Env) (s:Shared) (H:Hp) (vs:List V) (Q:VK) (E:XK),Room k (A.deeper (envOfC x (aaC st) s.heap.objs.size f (.ref c)))->sp vs H Q E->
   ∃t,Ss (ai2 CX0 P w K mg base N x (aaC st) f (.ref c) A outer s H E).nox (aaV st) t/\t {nx:=fun _ H'=>Q .non H',rt:=Q} (start N vs) H):Df P w K mg base x (k+1) ps sp:=by
 obtain⟨f,oc,od,kV,doc,pm,an,ct,osl,lk,hcd,kp,hb,hm⟩:=F.ex
 refine⟨⟨f,_,azL lk hcd S' len fun A outer s H vs Q E hr hsp=>?_,hb,hm,kp⟩⟩
 obtain⟨t,h,q⟩:=hbody f A outer s H vs Q E hr hsp
 exact⟨t,h.h.nox,q⟩
theorem ayS{h:Heap}{f:Addr}{oc:Value}{od an:Option Addr}{osl:Array (Option Value)}{kV doc pm ct:Value}(X:K.In h)(G:h.Ns mainGlobals mg)
  (a:nsIn K mainGlobals x=some (some (.ref f))) (l:K.lookup f=some ⟨oc,od,.func (fnOf x x (aa5 st) (aaV st) (aaC st) .none kV doc pm an (.ref c) ct),osl⟩)
  (cd:codeIn K (.ref c) x=true) (kp:keepIn K (.ref f)=true)
  (hb:∀(kV doc pm:Value) (an:Option Addr) (cdv ct:Value) (us:List Value),us.length=ps.length->bindArgs (fnOf x x (aa5 st) (aaV st) (aaC st) .none kV doc pm an cdv ct) ⟨us,[]⟩=pure (ps.zip us)):FnC K mg x st ps c:=
 ⟨⟨f,oc,od,kV,doc,pm,an,ct,osl,l,cd,kp,(apM (st:=st) l cd kp).binds (ps:=ps) hb,mg_of X G a⟩⟩
end
structure Host(K:Frag)(mg:Str->Option Value)(c Pt bm:Addr):Prop where
 code:∀h:Heap,K.In h->CodeHd h c Pt
 blt:mg "__builtins__"=some (.ref bm)/\bm≠builtinsNs
noncomputable def awZ(H:Hp)(bm:Addr):Prop:=∃ob u,H bm=some (.frz ob u)/\ob.cls=.type "module"/\ob.dict=some builtinsNs/\ob.data=.plain
noncomputable def acB(X:Cx)(y:Str):Addr:=(X.env.cells.lookup y).getD 0
noncomputable def auF(qual:Str)(params:Arguments)(body:Expr)(scope:Scope)(y:Str)(a:Addr)(pm:Value)(c':Addr)(ctv:Value):Obj:=kla_obj "<lambda>" qual params body scope [(y,a)] pm c' ctv
noncomputable def aN6(Pt bm:Addr)(lpos:Pos)(qual:Str)(params:Arguments)(body:Expr)(scope:Scope)(y:Str)(a:Addr)(pm:Value):TE:=fun _ H Q=>awZ H bm/\∃ps:Array Value,H Pt=some (.tbl ps)/\TriplesOk ps.toList/\
 ((codeAmong lpos ps.toList=none/\∀f c' ctv,H f=none->H c'=none->c'≠f->Q (.ref f) (upd (upd (upd H Pt (.tbl (ps++ #[rawInt lpos.line,rawInt lpos.col,.ref c']))) c' (alX c' qual)) f (ab4 f (auF qual params body scope y a pm c' ctv))))∨
 (∃c0,codeAmong lpos ps.toList=some (.ref c0)/\H c0=some (alX c0 qual)/\∀f ctv,H f=none->Q (.ref f) (upd H f (ab4 f (auF qual params body scope y a pm c0 ctv)))))
section
variable{X:Cx}
theorem aJR{params:Arguments}{body:Expr}{scope:Scope}{lpos:Pos}{y:Str}{c Pt bm:Addr}(hh:Host X.K X.mg c Pt bm)(hcode:X.env.code=.ref c:=by rfl)(hcl:closureFor scope X.env=pure [(y,acB X y)]:=by rfl)(hdef:defaultsOf params X.env=([],[]):=by rfl):
  E X (.Lambda params body scope lpos) (aN6 Pt bm lpos (X.env.qual++"<lambda>") params body scope y (acB X y) ((X.mg "__name__").getD .none)):=by
 refine⟨fun pins s σ H Q I h=>?_⟩
 obtain⟨⟨ob,u,hbm,b4,b5,b6⟩,ps,hP,ht,h⟩:=h
 have hPh:s.heap.get? Pt=some (tabObj ps):=I.hok Pt _ hP
 have hg:s.heap.Ns mainGlobals X.mg:=I.mod.glob.keeps I.bk
 have bn:∀b o,X.base.get? b=some o->b≠Pt:=fun b o e z=>by
  have:=(I.bs b o e).2
  rw[z,hP] at this
  cases this
 have hgP:mainGlobals≠Pt:=by
  obtain⟨o,es,ep,e,_⟩:=I.mod.glob
  exact bn _ _ e
 have hb:s.heap.BuiltinsAt X.mg Pt:=by
  obtain⟨b1,b2⟩:=hh.blt
  refine⟨bm,ob,b1,b2,fun z=>?_,fun z=>?_,(I.hok bm _ hbm).1,b4,b5,b6⟩
  ·obtain⟨o,es,ep,e2,_⟩:=I.mod.glob
   have:=(I.bs _ _ e2).2
   rw[←z,hbm] at this
   cases this
  ·rw[z,hP] at hbm
   cases hbm
 have nl:X.env.locals≠Pt:=fun z=>by
  have:=I.free
  rw[z,hP] at this
  cases this
 refine kla_eval hdef ?_
 rcases h with ⟨hnf,h⟩ | ⟨c0,hf,hc0,h⟩
 ·refine kla_makeFunction (mg:=X.mg) hcl I.ok.glob hg hcode (hh.code _ I.kIn) hPh ht hnf hgP hb fun c' ctv h' tk hx hge hlt hrec htb=>?_
  have szle:s.heap.objs.size<=h'.objs.size:=Nat.le_of_lt (dI hge hlt)
  have ltc:∀b o,s.heap.get? b=some o->b≠c'/\b≠h'.objs.size:=fun b o e=>⟨aX (a9 (aV e) hge),aX (a9 (aV e) szle)⟩
  have hc'n:H c'=none:=I.hok.fresh hge
  have hfn:H h'.objs.size=none:=I.hok.fresh szle
  have cf:c'≠h'.objs.size:=aX hlt
  have trk:∀b o,H b=some o->b≠c'/\b≠h'.objs.size:=fun b o e=>⟨aaG e hc'n,aaG e hfn⟩
  let fo:=auF (X.env.qual++"<lambda>") params body scope y (acB X y) ((X.mg "__name__").getD .none) c' ctv
  let H1:=upd (upd (upd H Pt (.tbl (ps++ #[rawInt lpos.line,rawInt lpos.col,.ref c']))) c' (alX c' (X.env.qual++"<lambda>"))) h'.objs.size (ab4 h'.objs.size fo)
  have H1o:∀b,b≠Pt->b≠c'->b≠h'.objs.size->H1 b=H b:=fun b n1 n2 n3=>by show upd (upd (upd H Pt _) c' _) h'.objs.size _ b=_;rw[aaF n3,aaF n2,aaF n1]
  have kp:∀b o,b≠Pt->s.heap.get? b=some o->(h'.push fo).get? b=some o:=fun b o n e=>aW _ (hx b o n e)
  have PtN:Pt≠c'/\Pt≠h'.objs.size:=trk _ _ hP
  have H1P:H1 Pt=some (.tbl (ps++ #[rawInt lpos.line,rawInt lpos.col,.ref c'])):=by show upd (upd (upd H Pt _) c' _) h'.objs.size _ Pt=_;rw[aaF PtN.2,aaF PtN.1,aaA]
  have H1c:H1 c'=some (alX c' (X.env.qual++"<lambda>")):=by show upd (upd (upd H Pt _) c' _) h'.objs.size _ c'=_;rw[aaF cf,aaA]
  have H1f:H1 h'.objs.size=some (ab4 h'.objs.size fo):=aaA
  have hok:HOk X.prog X.w H1 (h'.push fo):=fun b u e=>by
   by_cases n3:b=h'.objs.size
   ·subst n3
    rw[H1f] at e
    cases e
    exact ar6 (bD _ rfl)
   by_cases n2:b=c'
   ·subst n2
    rw[H1c] at e
    cases e
    obtain⟨c2,oc,vs,t,e2,hoc,hd,hv⟩:=hrec
    cases e2
    exact⟨⟨b,oc,vs,t,rfl,aW _ hoc,hd,hv⟩,⟨oc,aW _ hoc⟩,fun h1 h2 ⟨c2,oc,vs,t,e2,hoc,hd,hv⟩ k=>by cases e2;exact⟨b,oc,vs,t,rfl,k _ hoc,hd,hv⟩⟩
   by_cases n1:b=Pt
   ·subst n1
    rw[H1P] at e
    cases e
    exact aW _ htb
   rw[H1o b n1 n2 n3] at e
   refine (I.hok b u e).stay (fun d v z q=>kp d v (fun zz=>?_) q) (fun d q=>?_) fun d xs q=>?_
   ·rcases z with z | z
    ·exact n1 (z.symm.trans zz)
    ·rw[zz,hP] at z
     cases z
   ·have:=trk _ _ q
    rw[H1o d (fun zz=>by rw[zz,hP] at q;cases q) this.1 this.2]
    exact q
   ·have:=trk _ _ q
    rw[H1o d (fun zz=>by rw[zz,hP] at q;cases q) this.1 this.2]
    exact q
  refine⟨.ref h'.objs.size,H1,?_,rfl,h h'.objs.size c' ctv hfn hc'n cf⟩
  refine I.step (g':=s.gens) (d':=s.drawn) (t':=tk) (ch:=[]) (fun _ z=>nomatch z) (fun b o _ _ _ e n=>kp b o (fun z=>by rw[z,hP] at n;cases n) e) (fun b o _ _ _ e n=>⟨o.slots,kp b o (fun z=>by rw[z,hP] at n;cases n) e⟩) (fun b o _ e n=>?_) (fun b o _ e=>?_) (fun b xs e=>?_) (fun b o u e=>?_) (fun b qs e=>?_) (fun m hm=>(hm.extBut hx nl).push _) hok I.bare
  ·rw[H1o b (fun z=>by rw[z,hP] at n;cases n) (ltc b o e).1 (ltc b o e).2]
   exact n
  ·by_cases z:b=Pt
   ·rw[z];exact⟨_,aW _ htb⟩
   ·exact⟨o,kp b o z e⟩
  ·rw[H1o b (fun z=>by rw[z,hP] at e;cases e) (trk _ _ e).1 (trk _ _ e).2];exact e
  ·rw[H1o b (fun z=>by rw[z,hP] at e;cases e) (trk _ _ e).1 (trk _ _ e).2];exact e
  ·by_cases z:b=Pt
   ·rw[z,hP] at e
    cases e
    exact⟨_,z▸H1P⟩
   ·exact⟨#[],by rw[H1o b z (trk _ _ e).1 (trk _ _ e).2,e];simp⟩
 ·refine kla_makeFunctionHit (mg:=X.mg) hcl I.ok.glob hg hcode (hh.code _ I.kIn) hPh ht hf hb fun ctv h' tk hk hsz=>?_
  have hfn:H h'.objs.size=none:=I.hok.fresh hsz
  let fo:=auF (X.env.qual++"<lambda>") params body scope y (acB X y) ((X.mg "__name__").getD .none) c0 ctv
  have kp:∀b o,s.heap.get? b=some o->(h'.push fo).get? b=some o:=fun b o e=>aW _ (hk b o e)
  have hok:HOk X.prog X.w (upd H h'.objs.size (ab4 h'.objs.size fo)) (h'.push fo):=I.hok.laid kp hsz (ar6 (bD _ rfl))
  refine⟨.ref h'.objs.size,upd H h'.objs.size (ab4 h'.objs.size fo),?_,rfl,h h'.objs.size ctv hfn⟩
  exact I.step (g':=s.gens) (d':=s.drawn) (t':=tk) (ch:=[]) (fun _ z=>nomatch z) (fun b o _ _ _ e n=>kp b o e) (fun b o _ _ _ e n=>⟨o.slots,kp b o e⟩) (fun b o _ e n=>by rw[aaF (aX (a9 (aV e) hsz))];exact n) (fun b o _ e=>⟨o,kp b o e⟩) (fun b xs e=>by rw[aaF (aaG e hfn)];exact e) (fun b o u e=>by rw[aaF (aaG e hfn)];exact e) (fun b qs e=>⟨#[],by rw[aaF (aaG e hfn),e];simp⟩) (fun m hm=>(hm.keeps hk).push _) hok I.bare
end
end L2
namespace L2
open PySem PySem.Spec PyProof.Rows PySem.W
section
variable{X:Cx}
theorem azV{pins:List (Addr×Obj)}{σ:St}{H:Hp}{s:Shared}{Q:VK}{us:List Value}{vs:List V}{k:Nat}{f:Addr}{fd:FuncData}{ps:List Str}{sp:Sp}{i:Nat}{y:Str}{v0:V}(F:FnOk X.prog X.w X.K X.mg X.base CX0 k f fd ps sp)(hr:Room k X.A)(hb:Binds X.K fd ps [])
  (I:Inv X pins σ H s) (r:Vals vs us) (hi:X.N[i]? =some y) (hv:σ[i]? =some (some v0)) (hky:X.env.kindOf y=some .cell) (hcy:X.env.cells.lookup y=some (acB X y)) (hfn:X.fn y=true)
  (h:H (acB X y)=none->∀(o0:Obj) (u0:Value),o0.data=.cell (some u0)->RelV v0 u0->sp vs (upd H (acB X y) (ab4 (acB X y) o0)) (fun v H'=>H' (acB X y)=some (ab4 (acB X y) o0)/\Q v (era H' (acB X y))) E0):
  wpAny (model X.prog X.w) X.A (call (.ref f) us) (EP X pins σ Q) X.xe s:=by
 obtain⟨m,hn,hl⟩:=I.loc
 obtain⟨u0,r0,l⟩:=hl i y v0 hi hv (.inr (.inl hky))
 rcases l with ⟨z,_⟩ | ⟨_,c,ec,o0,ho,hd⟩
 ·rw[hky] at z;cases z
 rw[hcy] at ec
 cases ec
 have ha:H (acB X y)=none:=I.freeC y _ hcy
 have hge:X.s₀.heap.objs.size<=acB X y:=I.ok.cab y _ hfn hcy
 have q:=h ha o0 u0 hd r0
 generalize ea:acB X y=a at *
 have hok:HOk X.prog X.w (upd H a (ab4 a o0)) s.heap:=I.hok.track ha (ar6 ho)
 have nb:∀b o,X.base.get? b=some o->b≠a:=fun b o e=>aX (a9 (a9 (aV e) I.ok.bsz) hge)
 have nf:∀b∈frs X.stack,b≠a:=fun b hb z=>by
  subst z
  rcases aY.mp (I.stkSub b hb) with e | hb
  ·exact I.cne y _ hcy (ea▸e)
  ·obtain⟨_,o,ho',_⟩:=I.ok.funs.mem hb
   exact absurd (a9 (aV ho') hge) (b8 _)
 have e0:Env0 X.prog X.w X.K X.mg X.base X.A X.stack s (upd H a (ab4 a o0)):=⟨I.ok.frames,I.ok.mod,fun b o e=>⟨(I.bs b o e).1,by rw[aaF (nb b o e)];exact (I.bs b o e).2⟩,bO I.ok.bsz I.sz,I.stack,fun b hb=>by rw[aaF (nf b hb)];exact I.stkFree b hb,hok,I.bare⟩
 have hlen:(us++[]).length=ps.length:=by rw[cI,←r.length];exact F.len _ _ _ _ q
 have bt:=hb s us I.kIn hlen
 rw[cI] at bt
 refine wpAny_call (d6 (F.run X.A X.stack s _ ⟨us,[]⟩ us vs _ E0 hr e0 bt r q) fun r s' hq=>?_)
 cases r with
 |error e=>exact False.elim hq
 |ok fl=>
  cases fl with
  |next=>exact False.elim hq
  |brk=>exact False.elim hq
  |cont=>exact False.elim hq
  |ret u=>
   obtain⟨v,H',os,bare,un,hok',rz,hca,q⟩:=hq
   have ca:=ajV hok' hca
   refine I.after ⟨v,era H' a,os,bare,⟨fun b o e n hb hx=>?_,fun b o e n hb hx=>?_,fun b o e n hx=>?_,fun b o e hx=>un.there b o e hx,fun b xs e=>?_,fun b o u e=>?_,fun b qs e=>?_⟩,hok'.era_ (fun z e=>by rw[hca] at e;cases e) (fun xs e=>by rw[hca] at e;cases e),rz,q⟩
   ·by_cases z:b=a
    ·subst z
     rw[ho] at e
     cases e
     exact ca
    ·exact un.keep b o e (by rw[aaF z];exact n) hb hx
   ·exact un.slot b o e (by rw[aaF (nf b hb)];exact n) hb hx
   ·by_cases z:b=a
    ·rw[z];exact abU
    ·rw[aaR z];exact un.free b o e (by rw[aaF z];exact n) hx
   ·have z:b≠a:=aaG e ha
    rw[aaR z]
    exact un.tups b xs (by rw[aaF z];exact e)
   ·have z:b≠a:=aaG e ha
    rw[aaR z]
    exact un.frzs b o u (by rw[aaF z];exact e)
   ·have z:b≠a:=aaG e ha
    obtain⟨more,e'⟩:=un.tbls b qs (by rw[aaF z];exact e)
    exact⟨more,by rw[aaR z];exact e'⟩
noncomputable def at1(i:Nat)(a:Addr)(sp:Sp)(t:TA):TE:=fun σ H Q=>t σ H fun vs H1=>∃v0,σ[i]? =some (some v0)/\(H1 a=none->∀(o0:Obj) (u0:Value),o0.data=.cell (some u0)->RelV v0 u0->sp vs (upd H1 a (ab4 a o0)) (fun v H'=>H' a=some (ab4 a o0)/\Q v (era H' a)) E0)
theorem azA{x:Str}{k k':Nat}{ps:List Str}{sp:Sp}{e:Expr}{es:List Expr}{t:TA}{p pos:Pos}(y:Str)(i:Nat)(D:Df X.prog X.w X.K X.mg X.base x k ps sp)(hr:Room k' X.A)(ha:As X (e::es) t)(hk:k<=k':=by decide)(hi:X.N[i]? =some y:=by rfl)(hky:X.env.kindOf y=some .cell:=by rfl)(hcy:X.env.cells.lookup y=some (acB X y):=by rfl)(hfn:X.fn y=true:=by rfl)(hg:Gl X x:=by rfl)
  (hdb:(x==("__debug__":Str))=false:=by decide) (he:starEach (e::es) X.env=(false,eval e X.env)::starEach es X.env:=by rfl) (hpl:(backTo pos (starEach es X.env)).any (·.1)=false:=by rfl):
  E X (.Call (.Name x p) (e::es) [] pos) (at1 i (acB X y) sp t):=by
 obtain⟨f,fd,F,hb,hm,kp⟩:=D.ex
 refine⟨fun pins s σ H Q I h=>?_⟩
 refine eG (aeS I hg hm ?_ hdb)
 refine callWith_K (h₀:=X.base) I.ok.mod.kin kp (thn (ha.h pos pins s σ H _ I h) fun us s1 ⟨vs,H1,I1,r,v0,hv,q⟩=>⟨I1.kIn,?_⟩) he hpl
 exact azV F (hr.mono hk) hb I1 r hi hv hky hcy hfn q
noncomputable def Calls(P:Program)(w:World)(K:Frag)(mg:Str->Option Value)(base:Heap)(k:Nat)(f:Addr)(vs:List V)(H:Hp)(Q:VK):Prop:=
 ∀(A:Around) (outer:List Env) (s:Shared) (us:List Value),Room k A->Env0 P w K mg base A outer s H->Vals vs us->codeAny (model P w) A (.call (.ref f) ⟨us,[]⟩) (CR CX0 outer P w H s Q E0) s
noncomputable def FnHO(H:Hp)(f:Addr):Prop:=∃(oc:Value) (od:Option Addr) (fd:FuncData) (sl:Array (Option Value)),H f=some (ab4 f ⟨oc,od,.func fd,sl⟩)
noncomputable def aF5(P:Program)(w:World)(K:Frag)(mg:Str->Option Value)(base:Heap)(k:Nat)(tv:TE)(t:TA):TE:=fun σ H Q=>tv σ H fun v H1=>∃f,v=.ref f/\FnHO H1 f/\t σ H1 fun vs H2=>FnHO H2 f/\Calls P w K mg base k f vs H2 Q
theorem FnHO.at_{P:Program}{w:World}{H:Hp}{h:Heap}{f:Addr}(x:HOk P w H h)(e:FnHO H f):FnAt f h:=by
 obtain⟨oc,od,fd,sl,e⟩:=e
 exact⟨oc,od,fd,sl,ajV x e⟩
theorem aFL{y:Str}{e:Expr}{es:List Expr}{t:TA}{tv:TE}{k k':Nat}{p pos:Pos}(hr:Room k' X.A)(hv:E X (.Name y p) tv)(ha:As X (e::es) t)(hk:k<=k':=by decide)
  (he:starEach (e::es) X.env=(false,eval e X.env)::starEach es X.env:=by rfl) (hpl:(backTo pos (starEach es X.env)).any (·.1)=false:=by rfl):E X (.Call (.Name y p) (e::es) [] pos) (aF5 X.prog X.w X.K X.mg X.base k tv t):=by
 refine⟨fun pins s σ H Q I h=>?_⟩
 refine eG (thn (hv.h pins s σ H _ I h) fun v s1 ⟨x,H1,I1,r1,f,ex,hf1,q⟩=>?_)
 subst ex
 cases r1
 refine callWith_F (hf1.at_ I1.hok) (thn (ha.h pos pins s1 σ H1 _ I1 q) fun us s2 ⟨vs,H2,I2,r,hf2,hc⟩=>⟨hf2.at_ I2.hok,?_⟩) he hpl
 refine wpAny_call (d6 (hc X.A X.stack s2 us (hr.mono hk) I2.env0 r) fun r s' hq=>?_)
 cases r with
 |error e=>exact False.elim hq
 |ok fl=>
  cases fl with
  |ret u=>exact I2.after hq
  |next=>exact False.elim hq
  |brk=>exact False.elim hq
  |cont=>exact False.elim hq
end
end L2
namespace L2
open PySem PySem.Spec PyProof.Rows PySem.W
noncomputable def auO(tabs:List Addr)(bm:Addr)(H:Hp):Prop:=(∀b∈tabs,H b=some (.tbl #[]))/\(∀b,b∉tabs->H b=none∨∃o u,H b=some (.frz o u))/\awZ H bm
theorem awA{P:Program}{w:World}{K:Frag}{mg mb:Str->Option Value}{k:Nat}{fa a:Addr}{fd:FuncData}{x:Str}{sp:Sp}{s₁:Shared}{vs:List Value}{ns:List Int}{tabs:List Addr}{bm:Addr}{ob:Obj}
  (KX:K.In s₁.heap) (hns:s₁.heap.Ns mainGlobals mg) (hb:s₁.heap.Ns builtinsNs mb) (hbb:∀x:Str,x≠"__name__"->mb x=bootBuiltins x) (hlim:s₁.heap.NoLimit) (hg:s₁.gens= #[])
  (hT:∀b∈tabs,isCodeTable s₁.heap b/\s₁.heap.get? b=some (tabObj #[])) (hTK:∀b∈tabs,K.lookup b=none)
  (hB:s₁.heap.get? bm=some ob) (hBK:K.lookup bm=none) (b4:ob.cls=.type "module") (b5:ob.dict=some builtinsNs) (b6:ob.data=.plain)
  (ha:s₁.heap.get? a=some {cls:=.type "list",data:=.seq vs.toArray}) (hi:IntsAre vs ns) (hl:ns.length<=sizeLine) (hr:Room k callerA)
  (F:∀base:Heap,K.In base->base.Ns mainGlobals mg->FnOk P w K mg base CX0 k fa fd [x] sp) (hbind:∀(s:Shared) (u:Value),BindsTo s fd ⟨[u],[]⟩ [(x,u)])
  (hsp:∀H:Hp,auO tabs bm H->SqL K H a (ns.map V.int)->sp [.ref a] H (fun v _=>v=.bl true) fun _ _ _=>False):
  codeAny (model P w) callerA (.call (.ref fa) ⟨[.ref a],[]⟩) (fun r s'=>r=.ok (.ret (.bool true))/\OldK s₁.heap s'.heap/\s'.os=s₁.os/\AllBare s'.gens) s₁:=by
 have rv:=ahV hi
 have lenV:=hi.length
 have aT:a∉tabs:=fun h=>by
  have:=(hT a h).2
  rw[ha] at this
  cases this
 have bT:bm∉tabs:=fun h=>by
  have:=(hT bm h).2
  rw[hB] at this
  cases this
  cases b6
 have ba:bm≠a:=fun h=>by
  rw[h,ha] at hB
  cases hB
  cases b6
 have core:∀H:Hp,auO tabs bm H->SqL K H a (ns.map V.int)->HOk P w H s₁.heap->(∀b,b∉tabs->H b≠none->b=a∨b=bm)->(H a≠none->K.lookup a=none)->
   codeAny (model P w) callerA (.call (.ref fa) ⟨[.ref a],[]⟩) (fun r s'=>r=.ok (.ret (.bool true))/\OldK s₁.heap s'.heap/\s'.os=s₁.os/\AllBare s'.gens) s₁:=by
  intro H hO hS hok hA hK
  have base_of:∀{b:Addr} {o:Obj},s₁.heap.get? b=some o->H b=none->(anQ s₁.heap H).get? b=some o:=fun e n=>azS e n
  have cases_:∀b,H b=none∨b∈tabs∨b=a∨b=bm:=fun b=>by
   by_cases h:b∈tabs
   ·exact .inr (.inl h)
   ·cases q:H b with
    |none=>exact .inl rfl
    |some u=>exact .inr (.inr (hA b h (by rw[q];simp)))
  have noA:∀{b:Addr} {o:Obj} {es:Array DictEntry} {ep:Nat},s₁.heap.get? b=some o->o.data=.dict es ep->H b=none:=fun {b o es ep} e d=>by
   rcases cases_ b with h | h | h | h
   ·exact h
   ·rw[(hT b h).2] at e;cases e;cases d
   ·rw[h,ha] at e;cases e
    have d':Data.seq vs.toArray _=Data.dict es ep:=d
    cases d'
   ·rw[h,hB] at e;cases e
    rw[b6] at d;cases d
  have nsK:∀{b:Addr} {m:Str->Option Value},s₁.heap.Ns b m->(anQ s₁.heap H).Ns b m:=fun {b m} ⟨o,es,ep,e,d,r⟩=>⟨o,es,ep,base_of e (noA e d),d,r⟩
  have hKb:K.In (anQ s₁.heap H):=fun b o e=>base_of (KX b o e) (by
   rcases cases_ b with h | h | h | h
   ·exact h
   ·rw[hTK b h] at e;cases e
   ·cases q:H b with
    |none=>rfl
    |some u=>
     subst h
     rw[hK (by rw[q];simp)] at e;cases e
   ·rw[h,hBK] at e;cases e)
  have hM:Mod K mg (anQ s₁.heap H):=⟨hKb,nsK hns,⟨mb,nsK hb,hbb⟩,let ⟨mc,h1,h2⟩:=hlim;⟨mc,nsK h1,h2⟩⟩
  have e0:Env0 P w K mg (anQ s₁.heap H) callerA [] s₁ H:=⟨rfl,hM,fun b o e=>aBC e,Nat.le_of_eq (aw3 _ _),trivial,fun b hb=>absurd (show b∈([]:List Addr) from hb) (by simp),hok,.of_eq hg⟩
  refine d6 ((F _ hKb (nsK hns)).run callerA [] s₁ H ⟨[.ref a],[]⟩ [.ref a] [.ref a] _ _ hr e0 (hbind s₁ (.ref a)) (.cons rfl .nil) (hsp H hO hS)) fun r s' h=>?_
  cases r with
  |error e=>exact False.elim h
  |ok fl=>
   cases fl with
   |next=>exact False.elim h
   |brk=>exact False.elim h
   |cont=>exact False.elim h
   |ret u=>
    obtain⟨v,H',os,bare,un,hok',r',q⟩:=h
    have q':v=.bl true:=q
    subst q'
    obtain rfl:u=Value.bool true:=r'
    have kept:∀b o,b∉tabs->s₁.heap.get? b=some o->s'.heap.get? b=some o:=fun b o nb e=>by
     cases q:H b with
     |none=>exact un.keep b o e q (by intro z;exact absurd (show b∈([]:List Addr) from z) (by simp)) (by simp)
     |some u=>
      rcases hO.2.1 b nb with z | ⟨ob',xs,z⟩
      ·rw[q] at z;cases z
      ·have z2:=un.frzs b ob' _ z
       obtain⟨e1,_⟩:=hok b _ z
       obtain⟨e2,_⟩:=hok' b _ z2
       rw[e] at e1;cases e1
       exact e2
    have grown:∀b,b∈tabs->∃ps,s'.heap.get? b=some (tabObj ps):=fun b hb=>by
     obtain⟨more,z⟩:=un.tbls b #[] (hO.1 b hb)
     exact⟨_,hok' b _ z⟩
    refine⟨rfl,⟨fun b o e=>?_,fun b o e=>?_⟩,os,bare⟩
    ·by_cases hb:b∈tabs
     ·obtain⟨ps,hp⟩:=grown b hb
      rw[(hT b hb).2] at e
      cases e
      exact .inr (.inl ⟨(hT b hb).1,rfl,#[],ps,rfl,by rw[Array.empty_append];exact hp⟩)
     ·exact .inl (kept b o hb e)
    ·by_cases hb:b∈tabs
     ·obtain⟨ps,hp⟩:=grown b hb
      exact⟨_,hp⟩
     ·exact⟨o,kept b o hb e⟩
 have tOk:∀(H:Hp) (b:Addr),b∈tabs->ObjOk P w H s₁.heap b (.tbl #[]):=fun H b hb=>(hT b hb).2
 let G:Hp->Hp:=fun H0 b=>if b∈tabs then some (.tbl #[]) else if b=bm then some (.frz ob (ab4 bm ob)) else H0 b
 have Gt:∀{H0:Hp} {b:Addr},b∈tabs->G H0 b=some (.tbl #[]):=fun hb=>if_pos hb
 have Gb:∀{H0:Hp},G H0 bm=some (.frz ob (ab4 bm ob)):=(if_neg bT).trans (if_pos rfl)
 have Go:∀{H0:Hp} {b:Addr},b∉tabs->b≠bm->G H0 b=H0 b:=fun h1 h2=>(if_neg h1).trans (if_neg h2)
 have only:∀H0:Hp,(∀b,H0 b=none∨∃o u,H0 b=some (.frz o u))->auO tabs bm (G H0):=fun H0 h=>⟨fun b hb=>Gt hb,fun b hb=>by
  by_cases e:b=bm
  ·subst e;exact .inr ⟨_,_,Gb⟩
  ·rw[Go hb e];exact h b,ob,_,Gb,b4,b5,b6⟩
 have oks:∀H0:Hp,(∀b u,b∉tabs->b≠bm->H0 b=some u->ObjOk P w (G H0) s₁.heap b u)->HOk P w (G H0) s₁.heap:=fun H0 h b u z=>by
  by_cases hb:b∈tabs
  ·rw[Gt hb] at z
   cases z
   exact tOk _ b hb
  ·by_cases e:b=bm
   ·subst e
    rw[Gb] at z
    cases z
    exact⟨hB,ar6 hB⟩
   ·rw[Go hb e] at z
    exact h b u hb e z
 cases hk:K.lookup a with
 |some o=>
  have e:=KX a o hk
  rw[ha] at e
  cases e
  refine core (G fun _=>none) (only _ fun b=>.inl rfl) (.inr ⟨_,vs.toArray,_,hk,rfl,rfl,rfl,by rw[bJ,lenV];exact hl,by simpa using rv⟩) (oks _ fun b u _ _ z=>by cases z) (fun b hb z=>?_) fun z=>absurd (Go (H0:=fun _=>none) aT ba.symm) z
  by_cases e:b=bm
  ·exact .inr e
  ·exact absurd (Go (H0:=fun _=>none) hb e) z
 |none=>
  refine core (G fun b=>if b=a then some (.frz {cls:=.type "list",data:=.seq vs.toArray} (.lst (ns.map V.int))) else none) (only _ fun b=>?_) (.inl (.inr ⟨{cls:=.type "list",data:=.seq vs.toArray},(Go (H0:=fun b=>if b=a then some (.frz {cls:=.type "list",data:=.seq vs.toArray} (.lst (ns.map V.int))) else none) aT ba.symm).trans (if_pos rfl)⟩)) (oks _ fun b u hb nb z=>?_) (fun b hb z=>?_) fun _=>hk
  ·by_cases e:b=a
   ·exact .inr ⟨_,_,if_pos e⟩
   ·exact .inl (if_neg e)
  ·by_cases e:b=a
   ·have z:=(if_pos e).symm.trans z
    cases z
    subst e
    exact⟨ha,by rw[aU];exact hl,vs,_,rv,ha⟩
   ·have z:=(if_neg e).symm.trans z
    cases z
  ·by_cases e:b=bm
   ·exact .inr e
   ·by_cases e2:b=a
    ·exact .inl e2
    ·exact absurd ((Go (H0:=fun b=>if b=a then some (.frz {cls:=.type "list",data:=.seq vs.toArray} (.lst (ns.map V.int))) else none) hb e).trans (if_neg e2)) z
theorem walk_ofT{l:OpenLaw}{n k:Nat}{q:Program}{loose:List Str}{XP:(Str->Option Value)->Heap->Prop}{YP:World->Heap->Prop}{d:DefRec}{K:Params->Frag}{sp:World->Sp}{x:Str}{tabs:World->List Addr}{bm:Addr}
  (hn:l.most=some n) (hn2:n<=sizeLine) (hdf:d.params.defaults=[]) (hr:Room k callerA)
  (hY:∀(w:World) (h:Heap),YP w h->(K w.params).In h)
  (hTb:∀(w:World) (h:Heap) (mean:ExcName->Option Value) (mg mb:Str->Option Value),(K w.params).In h->Top q (looseW q loose) mean mg mb h->∀b∈tabs w,(isCodeTable h b/\h.get? b=some (tabObj #[]))/\(K w.params).lookup b=none)
  (hBm:∀(w:World) (h:Heap) (mg:Str->Option Value),(K w.params).In h->h.Ns mainGlobals mg->mg "__builtins__"=some (.ref bm)/\(K w.params).lookup bm=none)
  (F:∀(w:World) (mg:Str->Option Value) (fa:Addr) (h:Heap),(K w.params).In h->h.Ns mainGlobals mg->mg d.name=some (.ref fa)->
   ∃fd:FuncData,(∀(s:Shared) (u:Value),BindsTo s fd ⟨[u],[]⟩ [(x,u)])/\
    ∀base:Heap,(K w.params).In base->base.Ns mainGlobals mg->FnOk l.prog w (K w.params) mg base CX0 k fa fd [x] (sp w))
  (hsp:∀(w:World) (H:Hp) (a:Addr) (ns:List Int),ns.length<=n->auO (tabs w) bm H->SqL (K w.params) H a (ns.map V.int)->sp w [.ref a] H (fun v _=>v=.bl true) fun _ _ _=>False):
  WalkO q loose XP YP l.row.toRowW d [] (fun f vs=>PySem.call f vs):=by
 refine Att.attach_call hn hdf fun w s₀ s₁ mg mb fa o pm cd doc a vs ns G Y ho hd hcd hmg hobj hints hlen hg=>?_
 have KX:=hY w _ Y
 obtain⟨fd,hb,hF⟩:=F w mg fa _ KX G.T.g hmg
 have hT:=hTb w _ _ _ _ KX G.T
 obtain⟨bm',ob,a1,a2,a3,a4,a5,a6⟩:=G.T.bmain
 obtain⟨c1,c2⟩:=hBm w _ _ KX G.T.g
 rw[c1] at a1
 cases a1
 exact awA KX G.T.g G.T.b G.T.builtins G.T.nolimit hg (fun b hb=>(hT b hb).1) (fun b hb=>(hT b hb).2) a3 c2 a4 a5 a6 hobj hints (bO hlen hn2) hr hF hb fun H hO hS=>hsp w H a ns hlen hO hS
theorem avA{K:Frag}{mg:Str->Option Value}{h:Heap}{c Pt bm:Addr}{od:Option Addr}{sl:Array (Option Value)}{v0 v1 v2 v3 v4 v5 v6 v8 v12 v13 v14 v15 v16 v17:Value}{fl tx:Int}{tg tt tf:Tok}{inF:Bool}{file:Str}(X:K.In h)(G:h.Ns mainGlobals mg)
  (l:K.lookup c=some ⟨.type "code",od,.fields #[v0,v1,v2,v3,v4,v5,v6,.int fl tg,v8,.bool inF,.int tx tt,.ref Pt,v12,v13,v14,v15,v16,v17,.str file tf],sl⟩) (ne:c≠Pt)
  (b1:nsIn K mainGlobals "__builtins__"=some (some (.ref bm))) (b2:bm≠builtinsNs):Host K mg c Pt bm:=
 ⟨fun h' X'=>⟨_,_,file,tf,fl,tg,inF,tx,tt,X' _ _ l,rfl,rfl,rfl,rfl,rfl,rfl,rfl,rfl,ne⟩,mg_of X G b1,b2⟩
section
variable{X:Cx}{k:Nat}{o i value:Expr}{td ty tv:TE}{pos pos':Pos}
theorem tDnt(hr:Room k X.A)(hi:E X i ty)(ho:E X o td)(hm:behindInMarks .NotIn o=false:=by rfl):T X (.Compare i [.NotIn] [o] pos) (L2.tB (avH ty td)):=⟨aEB (axT (afZ hr) hi.h ho.h) hm⟩
theorem sDpt(hr:Room k X.A)(ho:E X o td)(hi:E X i ty)(hv:E X value tv)(hs:swapsWith value (some (.Subscript o i pos')) pos.line X.env=pure false:=by rfl):S X (.Assign [.Subscript o i pos'] value pos) (aDN td ty tv):=⟨aCZ (afZ hr) ho.h hi.h hv.h hs⟩
end
end L2
namespace L2
open PySem PySem.Spec PyProof.Rows PySem.SeqAt
section
variable{X:Cx}
noncomputable def Asc(l:List Nat):Prop:=∀c∈l,c<128
end
section
variable{X:Cx}
end
end L2
namespace L2
open PySem PySem.Spec PyProof.Rows PySem.SeqAt
section
variable{js:List Nat}{σ:St}{tt:TT}{te:TE}{Q:VK}{H1:Hp}
end
section
variable{X:Cx}
end
end L2
namespace K53
open PySem PySem.Spec PyProof.Rows L2 KM
noncomputable def top(i:Nat):Stmt:=PySem.Challenge.pw_fivefields_k53_never.main.body.getD i (.Pass ⟨0,0,0,0⟩)
noncomputable abbrev amW:Stmt:=top 12
noncomputable abbrev acK:Stmt:=top 13
noncomputable abbrev afF:Stmt:=top 14
noncomputable abbrev am7:Stmt:=top 15
noncomputable abbrev ajU:Stmt:=top 7
noncomputable abbrev amP:Stmt:=top 16
noncomputable abbrev arZ:Stmt:=top 17
noncomputable abbrev anA:Stmt:=top 18
noncomputable abbrev amN:Stmt:=top 19
noncomputable abbrev am1:Stmt:=top 20
noncomputable abbrev ah2:Stmt:=top 34
noncomputable abbrev am9:Stmt:=top 35
noncomputable abbrev aqO:Stmt:=top 28
noncomputable abbrev afH:Stmt:=top 23
noncomputable abbrev af8:Stmt:=top 24
noncomputable abbrev aDH:Stmt:=top 40
noncomputable abbrev anI:Stmt:=top 67
noncomputable abbrev agI:Stmt:=top 68
noncomputable abbrev aj8:Stmt:=top 69
noncomputable abbrev afK:Stmt:=top 70
noncomputable abbrev alB:Stmt:=top 71
noncomputable abbrev adY:Stmt:=top 72
noncomputable abbrev ah0:Stmt:=top 73
noncomputable abbrev agM:Stmt:=top 74
noncomputable abbrev agO:Stmt:=top 84
noncomputable abbrev akF:Stmt:=top 85
noncomputable abbrev ad2:Stmt:=top 86
noncomputable abbrev aiC:Stmt:=top 87
noncomputable abbrev ah5:Stmt:=aa6 (top 88) 0
noncomputable abbrev acO:Stmt:=aa6 (top 89) 0
noncomputable abbrev aeN:Stmt:=aa6 (top 89) 1
noncomputable abbrev aa7:Stmt:=aa6 (top 90) 0
noncomputable abbrev aiB:Stmt:=aa6 (top 90) 1
noncomputable abbrev adO:Stmt:=aa6 (top 91) 0
noncomputable abbrev aiL:Stmt:=aa6 (top 91) 1
noncomputable abbrev adN:Stmt:=aa6 (top 92) 0
noncomputable abbrev acD:Stmt:=aa6 (top 93) 0
noncomputable abbrev adJ:Stmt:=aa6 (top 93) 1
noncomputable abbrev aeC:Stmt:=aa6 (top 94) 0
noncomputable abbrev alF:Stmt:=aa6 (top 94) 1
noncomputable abbrev acS:Stmt:=aa6 (top 95) 0
noncomputable abbrev adZ:Stmt:=aa6 (top 95) 1
noncomputable abbrev aj3:Stmt:=top 96
noncomputable abbrev adU:Stmt:=top 97
noncomputable abbrev ad5:Stmt:=top 98
noncomputable abbrev acC:Stmt:=top 99
noncomputable abbrev agH:Stmt:=top 100
noncomputable abbrev aiG:Stmt:=top 101
noncomputable abbrev adT:Stmt:=top 102
noncomputable abbrev alL:Stmt:=top 36
noncomputable abbrev akJ:Stmt:=top 112
noncomputable abbrev anB:Stmt:=top 113
noncomputable abbrev aeD:Stmt:=aa6 (top 114) 0
noncomputable abbrev ae8:Stmt:=aa6 (top 114) 5
noncomputable abbrev aiE:Stmt:=top 115
noncomputable abbrev anK:Stmt:=top 116
noncomputable abbrev aj0:Stmt:=top 117
noncomputable abbrev afE:Stmt:=aa6 (top 114) 8
noncomputable abbrev agK:Stmt:=top 37
noncomputable abbrev aeE:Stmt:=top 38
noncomputable abbrev ajX:Stmt:=top 57
noncomputable abbrev af4:Stmt:=top 55
noncomputable abbrev aqZ:Stmt:=top 41
noncomputable abbrev adV:Stmt:=top 49
noncomputable abbrev aj7:Stmt:=top 50
noncomputable abbrev afM:Stmt:=top 48
noncomputable abbrev akT:Stmt:=top 51
noncomputable abbrev afL:Stmt:=aa6 (top 114) 6
noncomputable abbrev af7:Stmt:=top 56
noncomputable abbrev ak6:Stmt:=top 58
noncomputable abbrev ak9:Stmt:=top 59
noncomputable abbrev aiI:Stmt:=top 61
noncomputable abbrev am8:Stmt:=top 62
noncomputable abbrev aeJ:Stmt:=top 119
noncomputable abbrev aiJ:Stmt:=top 120
noncomputable abbrev afD:Stmt:=top 121
noncomputable abbrev auM:Stmt:=top 60
noncomputable abbrev aiN:Stmt:=top 125
noncomputable abbrev afG:Stmt:=top 126
noncomputable abbrev akK:Stmt:=top 127
noncomputable abbrev adL:Stmt:=top 128
noncomputable abbrev ah6:Stmt:=top 123
noncomputable abbrev agA:Stmt:=top 129
noncomputable abbrev ah4:Stmt:=top 124
noncomputable abbrev agJ:Stmt:=top 130
noncomputable abbrev amM:Stmt:=top 131
noncomputable def abC(y:Int):Bool:=decide (y%4=0)&&(!decide (y%100=0)||decide (y%400=0))
noncomputable def mb(y s:Int):Int:=(y+s-1) / s
noncomputable def db(y:Int):Int:=365*y+(mb y 4-mb y 100+mb y 400)
noncomputable def lasts:List Int:=[31,28,31,30,31,30,31,31,30,31,30,31]
noncomputable def aaQ(y:Int):Int:=if abC y=true then 1 else 0
noncomputable def aaD(y m:Int):Int:=if m=2 then 28+aaQ y else lasts.getD (m-1).toNat 0
theorem acM(y:Int):abC y=true↔(y%4=0/\(y%100≠0∨y%400=0)):=by
 unfold abC
 simp
theorem aqS{y:Int}(h:y%4=0/\(y%100≠0∨y%400=0)):abC y=true:=(acM y).mpr h
theorem ap3{y:Int}(h:¬(y%4=0/\(y%100≠0∨y%400=0))):abC y=false:=by
 cases e:abC y
 ·rfl
 ·exact absurd ((acM y).mp e) h
theorem ar7(y:Int):0<=aaQ y/\aaQ y<=1:=by
 unfold aaQ
 split<;>omega
theorem av1(y:Int):db y=365*y+((y+3) / 4-(y+99) / 100+(y+399) / 400):=by
 have e1:y+4-1=y+3:=by omega
 have e2:y+100-1=y+99:=by omega
 have e3:y+400-1=y+399:=by omega
 unfold db mb
 rw[e1,e2,e3]
theorem ajS(y:Int):db (y+1)-db y=365+aaQ y:=by
 unfold aaQ
 by_cases h:abC y=true
 ·rw[if_pos h]
  rw[acM] at h
  unfold db mb
  omega
 ·rw[if_neg h]
  rw[acM] at h
  unfold db mb
  omega
theorem akV{m:Int}(h1:1<=m)(h2:m<=12):atI (lasts.map V.int) (m-1)=some (V.int (lasts.getD (m-1).toNat 0)):=by
 have hk:(m-1).toNat<12:=by omega
 have e:m-1=(((m-1).toNat:Nat):Int):=by omega
 rw[e]
 refine aeR ?_
 rw[bQ]
 generalize (m-1).toNat=j at hk
 match j,hk with
 |0,_ | 1,_ | 2,_ | 3,_ | 4,_ | 5,_ | 6,_ | 7,_ | 8,_ | 9,_ | 10,_ | 11,_=>rfl
 |n+12,h=>exact absurd h (by omega)
noncomputable def ahN(y:Int):Nat->Int
 |0=>0
 |n+1=>ahN y n+aaD y ((n:Int)+1)
noncomputable def ahead(y m:Int):Int:=ahN y (m-1).toNat
theorem adA{y m:Int}(h:1<=m):ahead y (m+1)=ahead y m+aaD y m:=by
 have e:(m+1-1).toNat=(m-1).toNat+1:=by omega
 have e2:(((m-1).toNat:Nat):Int)+1=m:=by omega
 unfold ahead
 rw[e]
 show ahN y (m-1).toNat+aaD y (((m-1).toNat:Int)+1)=_
 rw[e2]
theorem akS(y:Int):ahead y 13=365+aaQ y:=by
 show 0+aaD y 1+aaD y 2+aaD y 3+aaD y 4+aaD y 5+aaD y 6+aaD y 7+aaD y 8+aaD y 9+aaD y 10+aaD y 11+aaD y 12=_
 have e2:aaD y 2=28+aaQ y:=rfl
 rw[e2]
 show 0+31+(28+aaQ y)+31+30+31+30+31+31+30+31+30+31=_
 omega
theorem amZ{y m:Int}(h1:1<=m)(h2:m<=12):28<=aaD y m:=by
 have hl:=ar7 y
 unfold aaD
 split
 ·omega
 ·have hk:(m-1).toNat<12:=by omega
  generalize (m-1).toNat=j at hk
  match j,hk with
  |0,_ | 1,_ | 2,_ | 3,_ | 4,_ | 5,_ | 6,_ | 7,_ | 8,_ | 9,_ | 10,_ | 11,_=>decide
  |n+12,h=>exact absurd h (by omega)
theorem auT(y:Int):∀n:Nat,((List.range n).map fun i:Nat=>aaD y (1+(i:Int))).sum=ahN y n
 |0=>rfl
 |n+1=>by
  rw[amL,List.sum_append,auT y n]
  show ahN y n+(aaD y (1+(n:Int))+0)=ahN y n+aaD y ((n:Int)+1)
  rw[Int.add_comm 1 (n:Int),Int.add_zero]
noncomputable def aj4(k:Int):List Int:=if k / 7=12 then [2,29,k%7] else [k / 7+1,aaD 1 (k / 7+1),k%7]
noncomputable def mnA(k:Int):Int:=if k / 7=12 then 2 else k / 7+1
noncomputable def lnA(k:Int):Int:=if k / 7=12 then 29 else aaD 1 (k / 7+1)
theorem agG(k:Int):aj4 k=[mnA k,lnA k,k%7]:=by
 unfold aj4 mnA lnA
 split<;>rfl
theorem aCT:∀n:Nat,n<91->(1<=mnA n/\mnA n<=12)/\(28<=lnA n/\lnA n<=31):=by decide +kernel
theorem adH{k:Int}(h0:0<=k)(h1:k<=90):(1<=mnA k/\mnA k<=12)/\Lf (lnA k) (k%7):=by
 have z:=aCT k.toNat (by omega)
 rw[bU h0] at z
 exact⟨z.1,z.2,by omega,by omega⟩
noncomputable def DVn(c:Cs)(D:Addr)(H:Hp)(v:V)(ko:Option (List Mk)):Prop:=DV c H v ko/\∀p,v=.ref p->p≠D
theorem DVn.keep{c:Cs}{D:Addr}{H H':Hp}(s:Same H H'){v:V}{ko:Option (List Mk)}(h:DVn c D H v ko):DVn c D H' v ko:=⟨h.1.keep s,h.2⟩
theorem DVn.upd{c:Cs}{D:Addr}{H:Hp}{l':List V}{v:V}:∀{ko:Option (List Mk)},DVn c D H v ko->(∃l,H D=some (.lst l))->DVn c D (upd H D (.lst l')) v ko
 |none,h,_=>h
 |some ks,⟨⟨p,qs,e,h1,h2,h3⟩,hn⟩,⟨l,hl⟩=>⟨⟨p,qs,e,by rw[aaF (hn p e)];exact h1,h2.keepM (alI hl),h3⟩,hn⟩
noncomputable def RR(c:Cs)(m0 m1 m3:Int)(kd kw:Option (List Mk))(D:Addr)(i:Nat)(l:List V)(H:Hp):Prop:=match i with
 |0=>l=[]
 |1=>l=[.int m0]
 |2=>l=[.int m0,.int m1]
 |3=>∃dv,l=[.int m0,.int m1,dv]/\DVn c D H dv kd
 |4=>∃dv,l=[.int m0,.int m1,dv,.int m3]/\DVn c D H dv kd
 |_=>∃dv wv,l=[.int m0,.int m1,dv,.int m3,wv]/\DVn c D H dv kd/\DVn c D H wv kw
theorem RR.keep{c:Cs}{m0 m1 m3:Int}{kd kw:Option (List Mk)}{D:Addr}{l:List V}{H H':Hp}(s:Same H H'):∀{i:Nat},RR c m0 m1 m3 kd kw D i l H->RR c m0 m1 m3 kd kw D i l H'
 |0,h=>h
 |1,h=>h
 |2,h=>h
 |3,⟨dv,e,h⟩=>⟨dv,e,h.keep s⟩
 |4,⟨dv,e,h⟩=>⟨dv,e,h.keep s⟩
 |_+5,⟨dv,wv,e,h,h'⟩=>⟨dv,wv,e,h.keep s,h'.keep s⟩
theorem RR.upd{c:Cs}{m0 m1 m3:Int}{kd kw:Option (List Mk)}{D:Addr}{l l':List V}{H:Hp}(hl:∃l,H D=some (.lst l)):∀{i:Nat},RR c m0 m1 m3 kd kw D i l H->RR c m0 m1 m3 kd kw D i l (upd H D (.lst l'))
 |0,h=>h
 |1,h=>h
 |2,h=>h
 |3,⟨dv,e,h⟩=>⟨dv,e,h.upd hl⟩
 |4,⟨dv,e,h⟩=>⟨dv,e,h.upd hl⟩
 |_+5,⟨dv,wv,e,h,h'⟩=>⟨dv,wv,e,h.upd hl,h'.upd hl⟩
theorem aBB{ws:List (List Nat)}(h:∀w∈ws,w≠[]):inV (.str (Tx [])) (ws.map fun q=>V.str (Tx q))=false:=by
 unfold inV
 rw[List.any_map,cX]
 intro w hw hc
 have e:Tx w=Tx []:=beq_iff_eq.mp (show (Tx w==Tx [])=true from hc)
 exact h w hw (by have:=congrArg (fun z=>z.cps.toList) e;simpa [Tx] using this)
noncomputable def abZ(m0 m1:Int)(dv:V)(m3:Int)(wv:V)(tm:Int):List (Str×V):=aaU "time_mask" (.int tm) (aaU "weekday_marks" wv (aaU "month_mask" (.int m3) (aaU "day_marks" dv (aaU "hour_mask" (.int m1) (aaU "minute_mask" (.int m0) [])))))
theorem ac9(m0 m1:Int)(dv:V)(m3:Int)(wv:V)(tm:Int):(abZ m0 m1 dv m3 wv tm).lookup ("minute_mask":Str)=some (.int m0):=by
 unfold abZ
 rw[aaE,if_neg (by decide +kernel),aaE,if_neg (by decide +kernel),aaE,if_neg (by decide +kernel),aaE,if_neg (by decide +kernel),aaE,if_neg (by decide +kernel),aaE,if_pos rfl]
theorem aeP(m0 m1:Int)(dv:V)(m3:Int)(wv:V)(tm:Int):(abZ m0 m1 dv m3 wv tm).lookup ("hour_mask":Str)=some (.int m1):=by
 unfold abZ
 rw[aaE,if_neg (by decide +kernel),aaE,if_neg (by decide +kernel),aaE,if_neg (by decide +kernel),aaE,if_neg (by decide +kernel),aaE,if_pos rfl]
theorem ajW(m0 m1:Int)(dv:V)(m3:Int)(wv:V)(tm:Int):(abZ m0 m1 dv m3 wv tm).lookup ("day_marks":Str)=some (dv):=by
 unfold abZ
 rw[aaE,if_neg (by decide +kernel),aaE,if_neg (by decide +kernel),aaE,if_neg (by decide +kernel),aaE,if_pos rfl]
theorem adK(m0 m1:Int)(dv:V)(m3:Int)(wv:V)(tm:Int):(abZ m0 m1 dv m3 wv tm).lookup ("month_mask":Str)=some (.int m3):=by
 unfold abZ
 rw[aaE,if_neg (by decide +kernel),aaE,if_neg (by decide +kernel),aaE,if_pos rfl]
theorem afY(m0 m1:Int)(dv:V)(m3:Int)(wv:V)(tm:Int):(abZ m0 m1 dv m3 wv tm).lookup ("weekday_marks":Str)=some (wv):=by
 unfold abZ
 rw[aaE,if_neg (by decide +kernel),aaE,if_pos rfl]
theorem aj9(m0 m1:Int)(dv:V)(m3:Int)(wv:V)(tm:Int):(abZ m0 m1 dv m3 wv tm).lookup ("time_mask":Str)=some (.int tm):=by
 unfold abZ
 rw[aaE,if_pos rfl]
theorem abQ(m0 m1:Int)(dv:V)(m3:Int)(wv:V)(tm:Int):(abZ m0 m1 dv m3 wv tm).lookup ("days_in":Str)=none:=by
 unfold abZ
 rw[aaE,if_neg (by decide +kernel),aaE,if_neg (by decide +kernel),aaE,if_neg (by decide +kernel),aaE,if_neg (by decide +kernel),aaE,if_neg (by decide +kernel),aaE,if_neg (by decide +kernel)]
 rfl
theorem ajC(m0 m1:Int)(dv:V)(m3:Int)(wv:V)(tm:Int):(abZ m0 m1 dv m3 wv tm).lookup ("shut_by":Str)=none:=by
 unfold abZ
 rw[aaE,if_neg (by decide +kernel),aaE,if_neg (by decide +kernel),aaE,if_neg (by decide +kernel),aaE,if_neg (by decide +kernel),aaE,if_neg (by decide +kernel),aaE,if_neg (by decide +kernel)]
 rfl
theorem ajF(m0 m1:Int)(dv:V)(m3:Int)(wv:V)(tm:Int):(abZ m0 m1 dv m3 wv tm).lookup ("on_days":Str)=none:=by
 unfold abZ
 rw[aaE,if_neg (by decide +kernel),aaE,if_neg (by decide +kernel),aaE,if_neg (by decide +kernel),aaE,if_neg (by decide +kernel),aaE,if_neg (by decide +kernel),aaE,if_neg (by decide +kernel)]
 rfl
noncomputable def SV(b:Bool)(H:Hp)(v:V):Option (List Mk)->Prop
 |none=>v=.non
 |some ks=>∃p us,v=.ref p/\H p=some (.lst (us.map V.ref))/\Ft (TpAt b H) us ks
theorem SV.keep{b:Bool}{H H':Hp}(s:Same H H'){v:V}:∀{ko:Option (List Mk)},SV b H v ko->SV b H' v ko
 |none,h=>h
 |some _,⟨p,us,e,h1,h2⟩=>⟨p,us,e,s _ _ h1,h2.keepT s.keep⟩
theorem ac7{lo hi:Int}:∀{ws:List (List Nat)} {nss:List (List Int)},Paired (agY lo hi) ws nss->(∀w∈ws,Cl w)/\(∀n∈nss.flatten,lo<=n/\n<=hi)/\nss.flatten.length<=64*ws.length
 |_,_,.nil=>⟨fun w hw=>(nomatch hw),fun n hn=>(nomatch hn),aS _⟩
 |w::ws,ns::nss,.cons r t=>by
  obtain⟨h1,h2,h3⟩:=ac7 t
  refine⟨fun v hv=>?_,fun n hn=>?_,?_⟩
  ·rcases aY.mp hv with z | z
   ·subst z;exact r.2.1
   ·exact h1 v z
  ·rw[List.flatten_cons] at hn
   exact (bV.mp hn).elim (r.2.2.1 n) (h2 n)
  ·rw[List.flatten_cons,bC,bX]
   have:=r.2.2.2.2
   omega
theorem aeM{α β:Type}{F:α->β->Prop}:∀{l:List α} {r:List β} {a:α} {b:β},Paired F l r->F a b->Paired F (l++[a]) (r++[b])
 |_,_,_,_,.nil,h=>.cons h .nil
 |_,_,_,_,.cons x t,h=>.cons x (aeM t h)
theorem afR{b:Bool}{ko:Option (List Mk)}{a l f:Int}(h:Lf l f)(o:∀ks,ko=some ks->∀k∈ks,k.ok)(ha:0<=a):0<=orO ko a l f:=by
 cases ko with
 |none=>exact ha
 |some ks=>exact ahZ ha (asO h (o ks rfl))
theorem aGI{a m:Int}{k:Nat}(ha:0<=a)(hk:a<2^k)(hm:0<=m):Builtin.bitOr a (m*2^k)=a+m*2^k:=by
 obtain⟨x,rfl⟩:=cC ha
 obtain⟨y,rfl⟩:=cC hm
 have e:((y:Int)*2^k)=((y*2^k:Nat):Int):=by rw[Int.natCast_mul,aa4]
 have hx:x<2^k:=by have:=aa4 k;omega
 rw[e,an0,Nat.or_comm,←Nat.shiftLeft_eq,←Nat.shiftLeft_add_eq_or_of_lt hx,Nat.shiftLeft_eq]
 omega
noncomputable def tmF(h m:Int):Int:=orM ((arO h).map fun z=>m*2^(60*z).toNat)
theorem avG{h m:Int}(hm:0<=m)(hm2:m<2^60):∀n:Nat,orM ((flt (tb h) 0 n).map fun z=>m*2^(60*z).toNat)=((flt (tb h) 0 n).map fun z=>m*2^(60*z).toNat).sum/\0<=((flt (tb h) 0 n).map fun z=>m*2^(60*z).toNat).sum/\((flt (tb h) 0 n).map fun z=>m*2^(60*z).toNat).sum<2^(60*n)
 |0=>by rw[alD];exact⟨rfl,aZ 0,(by decide:(0:Int)<2^0)⟩
 |n+1=>by
  obtain⟨h1,h2,h3⟩:=avG hm hm2 n
  have p60:(2:Int)^(60*(n+1))=2^(60*n)*2^60:=by rw[show 60*(n+1)=60*n+60 by omega,Int.pow_add]
  have p0:=aaM (60*n)
  cases c:tb h n
  ·rw[an6 c,p60]
   refine⟨h1,h2,Int.lt_of_lt_of_le h3 ?_⟩
   have:(2:Int)^(60*n)*1<=2^(60*n)*2^60:=Int.mul_le_mul_of_nonneg_left (by decide) (bR p0)
   omega
  ·have ez:(60*(0+(n:Int))).toNat=60*n:=by omega
   have hb:(m+1)*2^(60*n)<=2^60*2^(60*n):=Int.mul_le_mul_of_nonneg_right (by omega) (bR p0)
   have hn2:0<=m*2^(60*n):=Int.mul_nonneg hm (bR p0)
   rw[apL c,bH,List.map_singleton,aeI,List.sum_append,h1,ez,aGI h2 h3 hm,p60]
   rw[Int.add_mul,Int.mul_comm (2^60)] at hb
   refine⟨by simp,?_,?_⟩
   ·show 0<=_+(m*2^(60*n)+0)
    omega
   ·show _+(m*2^(60*n)+0)<_
    omega
theorem avO{a b:Int}(h:a+1<=b):db (a+1)<=db b:=by rw[av1,av1];omega
theorem aGB{q z:Int}(h:0<=z):db (q*400+z)<=146097*q+366*z:=by rw[av1];omega
noncomputable def OkD(y m k:Int):Prop:=(1<=m/\m<=12)/\1<=k/\k<=aaD y m
noncomputable def adW(y m k:Int):Int:=db y+ahead y m+k-1
theorem axW(y:Int):∀(n d:Nat),n+d<=12->ahN y n<=ahN y (n+d)
 |_,0,_=>aZ _
 |n,d+1,h=>by
  have h1:=axW y n d (by omega)
  have h2:28<=aaD y (((n+d:Nat):Int)+1):=amZ (by omega) (by omega)
  show ahN y n<=ahN y (n+d)+aaD y (((n+d:Nat):Int)+1)
  omega
theorem af9{y m n:Int}(h1:1<=m)(h2:m<=n)(h3:n<=13):ahead y m<=ahead y n:=by
 have e:(n-1).toNat=(m-1).toNat+(n-m).toNat:=by omega
 unfold ahead
 rw[e]
 exact axW y _ _ (by omega)
theorem aAG{y m k:Int}(h:OkD y m k):db y<=adW y m k/\adW y m k<db (y+1)/\adW y m k<db y+ahead y (m+1):=by
 obtain⟨⟨h1,h2⟩,h3,h4⟩:=h
 have a1:=adA (y:=y) h1
 have a2:ahead y (m+1)<=ahead y 13:=af9 (by omega) (by omega) (by omega)
 have a3:=akS y
 have a4:=ajS y
 have a5:ahead y 1<=ahead y m:=af9 (by omega) h1 (by omega)
 have a6:ahead y 1=0:=rfl
 unfold adW
 omega
theorem aBJ{y m k y' m' k':Int}(h:OkD y m k)(h':OkD y' m' k')(e:adW y m k=adW y' m' k'):y=y'/\m=m'/\k=k':=by
 have b:=aAG h
 have b':=aAG h'
 have ey:y=y':=by
  rcases Int.lt_trichotomy y y' with z | z | z
  ·have:=avO (a:=y) (b:=y') (by omega)
   omega
  ·exact z
  ·have:=avO (a:=y') (b:=y) (by omega)
   omega
 subst ey
 have em:m=m':=by
  rcases Int.lt_trichotomy m m' with z | z | z
  ·have:=af9 (y:=y) (m:=m+1) (n:=m') (by have:=h.1.1;omega) (by omega) (by have:=h'.1.2;omega)
   have q1:=h'.2.1
   have q2:adW y m' k'=db y+ahead y m'+k'-1:=rfl
   omega
  ·exact z
  ·have:=af9 (y:=y) (m:=m'+1) (n:=m) (by have:=h'.1.1;omega) (by omega) (by have:=h.1.2;omega)
   have q1:=h.2.1
   have q2:adW y m k=db y+ahead y m+k-1:=rfl
   omega
 subst em
 unfold adW at e
 exact⟨rfl,rfl,by omega⟩
noncomputable def plc(y m:Int):Int:=if m=2/\abC y=true then 12 else m-1
noncomputable def kindOf(y m:Int):Int:=7*plc y m+(db y+ahead y m+6)%7
theorem azJ{y m:Int}(h1:1<=m)(h2:m<=12):0<=plc y m/\plc y m<=12:=by
 unfold plc
 split<;>omega
theorem ajJ{y m:Int}(h1:1<=m)(h2:m<=12):0<=kindOf y m/\kindOf y m<=90:=by
 have:=azJ (y:=y) h1 h2
 unfold kindOf
 omega
theorem anL{y m:Int}(h:¬m=2):aaD y m=lasts.getD (m-1).toNat 0:=by unfold aaD;rw[if_neg h]
theorem azK{y m:Int}(h1:1<=m)(h2:m<=12):aj4 (kindOf y m)=[m,aaD y m,kindOf y m%7]:=by
 have hp:=azJ (y:=y) h1 h2
 have e:kindOf y m / 7=plc y m:=by unfold kindOf;omega
 unfold aj4
 rw[e]
 by_cases c:m=2/\abC y=true
 ·have ep:plc y m=12:=by unfold plc;rw[if_pos c]
  have el:aaD y m=29:=by unfold aaD aaQ;rw[if_pos c.1,if_pos c.2];rfl
  rw[ep,if_pos rfl,el,c.1]
 ·have ep:plc y m=m-1:=by unfold plc;rw[if_neg c]
  rw[ep,if_neg (by omega)]
  have e1:m-1+1=m:=by omega
  rw[e1]
  have el:aaD 1 m=aaD y m:=by
   by_cases c2:m=2
   ·have hl:¬abC y=true:=fun z=>c ⟨c2,z⟩
    unfold aaD aaQ
    rw[if_pos c2,if_pos c2,if_neg hl]
    rfl
   ·rw[anL c2,anL c2]
  rw[el]
theorem ac2{y m:Int}(h1:1<=m)(h2:m<=12):mnA (kindOf y m)=m/\lnA (kindOf y m)=aaD y m:=by
 have e:=azK (y:=y) h1 h2
 rw[agG] at e
 injection e with e1 e
 injection e with e2 e
 exact⟨e1,e2⟩
theorem anG{y m:Int}(h1:1<=m)(h2:m<=12):28<=aaD y m/\aaD y m<=31:=by
 have e:=ac2 (y:=y) h1 h2
 have k:=ajJ (y:=y) h1 h2
 rw[←e.2]
 exact (adH k.1 k.2).2.1
noncomputable def shK(m0 m1 m3:Int)(kd kw:Option (List Mk))(d r y m k:Int):V:=
 if tb m3 m.toNat=false then .str (Tx [109,111,110,116,104]) else if tb (aaY kd kw (aaD y m) ((d-k+1+6)%7)) k.toNat=false then .str (Tx [100,97,121])
 else if tb m1 (r / 60).toNat=false then .str (Tx [104,111,117,114]) else if tb m0 (r%60).toNat=false then .str (Tx [109,105,110,117,116,101]) else .non
section
variable{m0 m1 m3:Int}{kd kw:Option (List Mk)}{d r y m k:Int}
theorem sh1(h:tb m3 m.toNat=false):shK m0 m1 m3 kd kw d r y m k=.str (Tx [109,111,110,116,104]):=if_pos h
theorem sh2(h1:tb m3 m.toNat=true)(h:tb (aaY kd kw (aaD y m) ((d-k+1+6)%7)) k.toNat=false):shK m0 m1 m3 kd kw d r y m k=.str (Tx [100,97,121]):=by
 unfold shK
 rw[if_neg (by rw[h1];decide),if_pos h]
theorem sh3(h1:tb m3 m.toNat=true)(h2:tb (aaY kd kw (aaD y m) ((d-k+1+6)%7)) k.toNat=true)(h:tb m1 (r / 60).toNat=false):shK m0 m1 m3 kd kw d r y m k=.str (Tx [104,111,117,114]):=by
 unfold shK
 rw[if_neg (by rw[h1];decide),if_neg (by rw[h2];decide),if_pos h]
theorem sh4(h1:tb m3 m.toNat=true)(h2:tb (aaY kd kw (aaD y m) ((d-k+1+6)%7)) k.toNat=true)(h3:tb m1 (r / 60).toNat=true)(h:tb m0 (r%60).toNat=false):shK m0 m1 m3 kd kw d r y m k=.str (Tx [109,105,110,117,116,101]):=by
 unfold shK
 rw[if_neg (by rw[h1];decide),if_neg (by rw[h2];decide),if_neg (by rw[h3];decide),if_pos h]
theorem sh5(h1:tb m3 m.toNat=true)(h2:tb (aaY kd kw (aaD y m) ((d-k+1+6)%7)) k.toNat=true)(h3:tb m1 (r / 60).toNat=true)(h:tb m0 (r%60).toNat=true):shK m0 m1 m3 kd kw d r y m k=.non:=by
 unfold shK
 rw[if_neg (by rw[h1];decide),if_neg (by rw[h2];decide),if_neg (by rw[h3];decide),if_neg (by rw[h];decide)]
theorem anV(hk:OkD y m k)(e:adW y m k=d):kindOf y m%7=(d-k+1+6)%7:=by
 unfold kindOf
 unfold adW at e
 omega
theorem aDU(hk:OkD y m k):Lf (aaD y m) ((d-k+1+6)%7):=⟨anG hk.1.1 hk.1.2,by omega,by omega⟩
end
theorem ah9{b:Bool}(h:¬b=false):b=true:=by simpa using h
theorem agT{kd kw:Option (List Mk)}{l f:Int}(h:Lf l f)(od:∀ks,kd=some ks->∀k∈ks,k.ok)(ow:∀ks,kw=some ks->∀k∈ks,k.ok):0<=aaY kd kw l f:=by
 unfold aaY
 split
 ·have:=aaM l.toNat
  have:(2:Int)^l.toNat ≥ 1:=by omega
  omega
 ·exact afR (b:=true) h ow (afR (b:=false) h od (aZ 0))
theorem avQ{c:Cs}{H:Hp}{v:V}:∀{ko:Option (List Mk)},DV c H v ko->∀ks,ko=some ks->∀k∈ks,k.ok
 |some _,⟨_,_,_,_,_,h⟩,_,rfl=>h
noncomputable def tabA:List Nat:=[0,31,59,90,120,151,181,212,243,273,304,334]
noncomputable def codes:List Nat:=[13,1,2,3,11,6,0,1,9,4,5,6,7,2,3,4,12,0,1,2,10,5,6,0,8,3,4,5,13,1,2,3,11,6,0,1,9,4,5,6,7,2,3,4,12,0,1,2,10,5,6,0,8,3,4,5,13,1,2,3,11,6,0,1,9,4,5,6,7,2,3,4,12,0,1,2,10,5,6,0,8,3,4,5,13,1,2,3,11,6,0,1,9,4,5,6,7,2,3,4,5,6,0,1,9,4,5,6,7,2,3,4,12,0,1,2,10,5,6,0,8,3,4,5,13,1,2,3,11,6,0,1,9,4,5,6,7,2,3,4,12,0,1,2,10,5,6,0,8,3,4,5,13,1,2,3,11,6,0,1,9,4,5,6,7,2,3,4,12,0,1,2,10,5,6,0,8,3,4,5,13,1,2,3,11,6,0,1,9,4,5,6,7,2,3,4,12,0,1,2,3,4,5,6,7,2,3,4,12,0,1,2,10,5,6,0,8,3,4,5,13,1,2,3,11,6,0,1,9,4,5,6,7,2,3,4,12,0,1,2,10,5,6,0,8,3,4,5,13,1,2,3,11,6,0,1,9,4,5,6,7,2,3,4,12,0,1,2,10,5,6,0,8,3,4,5,13,1,2,3,11,6,0,1,9,4,5,6,7,2,3,4,12,0,1,2,10,5,6,0,1,2,3,4,12,0,1,2,10,5,6,0,8,3,4,5,13,1,2,3,11,6,0,1,9,4,5,6,7,2,3,4,12,0,1,2,10,5,6,0,8,3,4,5,13,1,2,3,11,6,0,1,9,4,5,6,7,2,3,4,12,0,1,2,10,5,6,0,8,3,4,5,13,1,2,3,11,6,0,1,9,4,5,6,7,2,3,4,12,0,1,2,10,5,6,0,8,3,4,5,13,1,2,3,11,6,0,1,9,4,5,6,7,2,3,4,12,0,1,2,10,5,6,0,8,3,4,5,13,1,2,3,11,6,0,1,9,4,5,6]
noncomputable def afI(y:Nat):Nat:=(if (y%4==0&&(y%100 !=0||y%400==0))=true then 7 else 0)+(365*y+(y+3) / 4-(y+99) / 100+(y+399) / 400+6)%7
theorem aq9:(List.range 440).map afI=codes:=by decide +kernel
noncomputable def akW(c m:Nat):Nat:=7*(if (Nat.beq m 1&&Nat.ble 7 c)=true then 12 else m)+(c%7+tabA.getD m 0+(if (Nat.ble 2 m&&Nat.ble 7 c)=true then 1 else 0))%7
noncomputable def arX(k:Nat):Nat:=if Nat.ble 84 k=true then 1 else k / 7
noncomputable def aj5(k:Nat):Nat:=if Nat.ble 84 k=true then 40 else 12
noncomputable def ad3(k b:Nat):List Nat->Nat->Bool
 |[],_=>true
 |c::r,a=>if Nat.beq (akW c (arX k)) k=true then ad3 k b r b else (Nat.ble 2 a&&ad3 k b r (a-1))
theorem azZ:∀k:Nat,k<91->ad3 k (aj5 k) codes (aj5 k)=true:=by decide +kernel
theorem ag1(k b:Nat)(hb:1<=b):∀(n:Nat) (l:List Nat) (a:Nat),1<=a->a<=b->ad3 k b l a=true->∃a',1<=a'/\a'<=b/\ad3 k b (l.drop n) a'=true
 |0,_,a,h0,h1,h=>⟨a,h0,h1,h⟩
 |n+1,[],a,h0,h1,_=>⟨a,h0,h1,rfl⟩
 |n+1,c::r,a,h0,h1,h=>by
  have h:(if Nat.beq (akW c (arX k)) k=true then ad3 k b r b else (Nat.ble 2 a&&ad3 k b r (a-1)))=true:=h
  show ∃a',1<=a'/\a'<=b/\ad3 k b (r.drop n) a'=true
  split at h
  ·exact ag1 k b hb n r b hb (aS _) h
  ·rw[bF] at h
   have:2<=a:=dN h.1
   exact ag1 k b hb n r (a-1) (by omega) (by omega) h.2
theorem arW(k b:Nat):∀(l:List Nat) (a:Nat),1<=a->a<=l.length->ad3 k b l a=true->∃j,j<a/\∃c,l[j]? =some c/\akW c (arX k)=k
 |[],a,h0,h1,_=>absurd h1 (by simp;omega)
 |c::r,a,h0,h1,h=>by
  have h:(if Nat.beq (akW c (arX k)) k=true then ad3 k b r b else (Nat.ble 2 a&&ad3 k b r (a-1)))=true:=h
  split at h
  ·rename_i q
   exact⟨0,by omega,c,rfl,Nat.eq_of_beq_eq_true q⟩
  ·rw[bF] at h
   have h2:2<=a:=dN h.1
   have h1':a<=r.length+1:=h1
   obtain⟨j,hj,c',e,q⟩:=arW k b r (a-1) (by omega) (by omega) h.2
   exact⟨j+1,by omega,c',e,q⟩
theorem aEF{k:Nat}(hk:k<91){y:Nat}(hy:y<400):∃j,j<aj5 k/\akW (afI (y+j)) (arX k)=k:=by
 have hb:1<=aj5 k/\aj5 k<=40:=by unfold aj5;split<;>omega
 obtain⟨a,a0,a1,h⟩:=ag1 k (aj5 k) hb.1 y codes (aj5 k) hb.1 (aS _) (azZ k hk)
 have hl:codes.length=440:=by rw[←aq9,aU,cE]
 obtain⟨j,hj,c,e,q⟩:=arW k (aj5 k) _ a a0 (by rw[List.length_drop,hl];omega) h
 rw[List.getElem?_drop,←aq9,bA,List.getElem?_range (by omega)] at e
 refine⟨j,by omega,?_⟩
 have e:afI (y+j)=c:=a8 e
 rw[e]
 exact q
theorem aKB(y:Int):ahead y 1=0:=by
 show 0=_
 have e2:aaD y 2=28+aaQ y:=rfl
 try rw[e2]
 show (0:Int)=_
 omega
theorem aPO(y:Int):ahead y 2=31:=by
 show 0+aaD y 1=_
 have e2:aaD y 2=28+aaQ y:=rfl
 try rw[e2]
 show (0+31:Int)=_
 omega
theorem aP4(y:Int):ahead y 3=59+aaQ y:=by
 show 0+aaD y 1+aaD y 2=_
 have e2:aaD y 2=28+aaQ y:=rfl
 try rw[e2]
 show (0+31+(28+aaQ y):Int)=_
 omega
theorem aIX(y:Int):ahead y 4=90+aaQ y:=by
 show 0+aaD y 1+aaD y 2+aaD y 3=_
 have e2:aaD y 2=28+aaQ y:=rfl
 try rw[e2]
 show (0+31+(28+aaQ y)+31:Int)=_
 omega
theorem aMU(y:Int):ahead y 5=120+aaQ y:=by
 show 0+aaD y 1+aaD y 2+aaD y 3+aaD y 4=_
 have e2:aaD y 2=28+aaQ y:=rfl
 try rw[e2]
 show (0+31+(28+aaQ y)+31+30:Int)=_
 omega
theorem aIC(y:Int):ahead y 6=151+aaQ y:=by
 show 0+aaD y 1+aaD y 2+aaD y 3+aaD y 4+aaD y 5=_
 have e2:aaD y 2=28+aaQ y:=rfl
 try rw[e2]
 show (0+31+(28+aaQ y)+31+30+31:Int)=_
 omega
theorem aMN(y:Int):ahead y 7=181+aaQ y:=by
 show 0+aaD y 1+aaD y 2+aaD y 3+aaD y 4+aaD y 5+aaD y 6=_
 have e2:aaD y 2=28+aaQ y:=rfl
 try rw[e2]
 show (0+31+(28+aaQ y)+31+30+31+30:Int)=_
 omega
theorem aL7(y:Int):ahead y 8=212+aaQ y:=by
 show 0+aaD y 1+aaD y 2+aaD y 3+aaD y 4+aaD y 5+aaD y 6+aaD y 7=_
 have e2:aaD y 2=28+aaQ y:=rfl
 try rw[e2]
 show (0+31+(28+aaQ y)+31+30+31+30+31:Int)=_
 omega
theorem aLC(y:Int):ahead y 9=243+aaQ y:=by
 show 0+aaD y 1+aaD y 2+aaD y 3+aaD y 4+aaD y 5+aaD y 6+aaD y 7+aaD y 8=_
 have e2:aaD y 2=28+aaQ y:=rfl
 try rw[e2]
 show (0+31+(28+aaQ y)+31+30+31+30+31+31:Int)=_
 omega
theorem aHN(y:Int):ahead y 10=273+aaQ y:=by
 show 0+aaD y 1+aaD y 2+aaD y 3+aaD y 4+aaD y 5+aaD y 6+aaD y 7+aaD y 8+aaD y 9=_
 have e2:aaD y 2=28+aaQ y:=rfl
 try rw[e2]
 show (0+31+(28+aaQ y)+31+30+31+30+31+31+30:Int)=_
 omega
theorem aDM(y:Int):ahead y 11=304+aaQ y:=by
 show 0+aaD y 1+aaD y 2+aaD y 3+aaD y 4+aaD y 5+aaD y 6+aaD y 7+aaD y 8+aaD y 9+aaD y 10=_
 have e2:aaD y 2=28+aaQ y:=rfl
 try rw[e2]
 show (0+31+(28+aaQ y)+31+30+31+30+31+31+30+31:Int)=_
 omega
theorem aC4(y:Int):ahead y 12=334+aaQ y:=by
 show 0+aaD y 1+aaD y 2+aaD y 3+aaD y 4+aaD y 5+aaD y 6+aaD y 7+aaD y 8+aaD y 9+aaD y 10+aaD y 11=_
 have e2:aaD y 2=28+aaQ y:=rfl
 try rw[e2]
 show (0+31+(28+aaQ y)+31+30+31+30+31+31+30+31+30:Int)=_
 omega
theorem avM(y:Int):(y%400).toNat<400/\((afI (y%400).toNat:Nat):Int)=(if abC y=true then 7 else 0)+(db y+6)%7:=by
 have h0:=cN y (show (400:Int)≠0 by decide)
 have h1:=c7 y (show (0:Int)<400 by decide)
 refine⟨by omega,?_⟩
 have er:((y%400).toNat:Int)=y%400:=bU h0
 generalize (y%400).toNat=r at er
 have ed:=av1 y
 have g1:(y+3) / 4=100*(y / 400)+((r:Int)+3) / 4:=by omega
 have g2:(y+99) / 100=4*(y / 400)+((r:Int)+99) / 100:=by omega
 have g3:(y+399) / 400=y / 400+((r:Int)+399) / 400:=by omega
 have g4:db y+6=7*(20871*(y / 400))+(365*r+(r+3) / 4-(r+99) / 100+(r+399) / 400+6):=by
  rw[ed,g1,g2,g3]
  clear h0 h1 ed g1 g2 g3
  omega
 have g5:(db y+6)%7=(365*(r:Int)+(r+3) / 4-(r+99) / 100+(r+399) / 400+6)%7:=by
  rw[g4]
  clear h0 h1 ed g1 g2 g3 g4 er
  omega
 have e7:(365*r+(r+3) / 4-(r+99) / 100+(r+399) / 400+6)%7=((db y+6)%7).toNat:=by
  rw[show ((r:Int)+3) / 4=(((r+3) / 4:Nat):Int) by omega,show ((r:Int)+99) / 100=(((r+99) / 100:Nat):Int) by omega,show ((r:Int)+399) / 400=(((r+399) / 400:Nat):Int) by omega] at g5
  have hq:(r+99) / 100<=365*r+(r+3) / 4:=by omega
  rw[g5]
  generalize (r+3) / 4=q1 at hq ⊢
  generalize (r+99) / 100=q2 at hq ⊢
  generalize (r+399) / 400=q3
  omega
 have e8:=cN (db y+6) (show (7:Int)≠0 by decide)
 have il:=acM y
 unfold afI
 rw[e7]
 by_cases c:abC y=true
 ·rw[if_pos c,if_pos ?_]
  ·omega
  ·have z:=il.mp c
   rw[bF,Bool.or_eq_true,beq_iff_eq,bne_iff_ne,beq_iff_eq]
   omega
 ·rw[if_neg c,if_neg ?_]
  ·omega
  ·intro z
   rw[bF,Bool.or_eq_true,beq_iff_eq,bne_iff_ne,beq_iff_eq] at z
   exact c (il.mpr (by omega))
theorem kc7{X Z P:Int}{p T l:Nat}(hP:P=7*(p:Int))(hZ:Z=(T:Int)+l):P+(X+Z+6)%7=((7*p+(((X+6)%7).toNat+T+l)%7:Nat):Int):=by omega
theorem axU(y:Int){m:Nat}(hm:m<12):kindOf y ((m:Int)+1)=(akW (afI (y%400).toNat) m:Nat):=by
 obtain⟨_,hc⟩:=avM y
 generalize afI (y%400).toNat=c at hc
 unfold kindOf plc akW
 have e8:=cN (db y+6) (show (7:Int)≠0 by decide)
 have e9:=c7 (db y+6) (show (0:Int)<7 by decide)
 by_cases L:abC y=true
 ·rw[if_pos L] at hc
  have hL:aaQ y=1:=by unfold aaQ;rw[if_pos L]
  have hb:Nat.ble 7 c=true:=Nat.ble_eq_true_of_le (by omega)
  have hd:c%7=((db y+6)%7).toNat:=by omega
  rw[hb,hd]
  match m,hm with
  |0,_=>
   rw[show (((0:Nat):Int)+1)=1 from rfl,aKB,if_neg (fun z=>absurd z.1 (by decide)),if_neg (by decide),if_neg (by decide)]
   exact kc7 (T:=0) (by decide) (by first | rfl | (rw[hL];rfl))
  |1,_=>
   rw[show (((1:Nat):Int)+1)=2 from rfl,aPO,if_pos ⟨rfl,L⟩,if_pos (show (Nat.beq 1 1&&true)=true by decide),if_neg (by decide)]
   exact kc7 (T:=31) (by decide) (by first | rfl | (rw[hL];rfl))
  |2,_=>
   rw[show (((2:Nat):Int)+1)=3 from rfl,aP4,if_neg (fun z=>absurd z.1 (by decide)),if_neg (by decide),if_pos (show (Nat.ble 2 2&&true)=true by decide)]
   exact kc7 (T:=59) (by decide) (by first | rfl | (rw[hL];rfl))
  |3,_=>
   rw[show (((3:Nat):Int)+1)=4 from rfl,aIX,if_neg (fun z=>absurd z.1 (by decide)),if_neg (by decide),if_pos (show (Nat.ble 2 3&&true)=true by decide)]
   exact kc7 (T:=90) (by decide) (by first | rfl | (rw[hL];rfl))
  |4,_=>
   rw[show (((4:Nat):Int)+1)=5 from rfl,aMU,if_neg (fun z=>absurd z.1 (by decide)),if_neg (by decide),if_pos (show (Nat.ble 2 4&&true)=true by decide)]
   exact kc7 (T:=120) (by decide) (by first | rfl | (rw[hL];rfl))
  |5,_=>
   rw[show (((5:Nat):Int)+1)=6 from rfl,aIC,if_neg (fun z=>absurd z.1 (by decide)),if_neg (by decide),if_pos (show (Nat.ble 2 5&&true)=true by decide)]
   exact kc7 (T:=151) (by decide) (by first | rfl | (rw[hL];rfl))
  |6,_=>
   rw[show (((6:Nat):Int)+1)=7 from rfl,aMN,if_neg (fun z=>absurd z.1 (by decide)),if_neg (by decide),if_pos (show (Nat.ble 2 6&&true)=true by decide)]
   exact kc7 (T:=181) (by decide) (by first | rfl | (rw[hL];rfl))
  |7,_=>
   rw[show (((7:Nat):Int)+1)=8 from rfl,aL7,if_neg (fun z=>absurd z.1 (by decide)),if_neg (by decide),if_pos (show (Nat.ble 2 7&&true)=true by decide)]
   exact kc7 (T:=212) (by decide) (by first | rfl | (rw[hL];rfl))
  |8,_=>
   rw[show (((8:Nat):Int)+1)=9 from rfl,aLC,if_neg (fun z=>absurd z.1 (by decide)),if_neg (by decide),if_pos (show (Nat.ble 2 8&&true)=true by decide)]
   exact kc7 (T:=243) (by decide) (by first | rfl | (rw[hL];rfl))
  |9,_=>
   rw[show (((9:Nat):Int)+1)=10 from rfl,aHN,if_neg (fun z=>absurd z.1 (by decide)),if_neg (by decide),if_pos (show (Nat.ble 2 9&&true)=true by decide)]
   exact kc7 (T:=273) (by decide) (by first | rfl | (rw[hL];rfl))
  |10,_=>
   rw[show (((10:Nat):Int)+1)=11 from rfl,aDM,if_neg (fun z=>absurd z.1 (by decide)),if_neg (by decide),if_pos (show (Nat.ble 2 10&&true)=true by decide)]
   exact kc7 (T:=304) (by decide) (by first | rfl | (rw[hL];rfl))
  |11,_=>
   rw[show (((11:Nat):Int)+1)=12 from rfl,aC4,if_neg (fun z=>absurd z.1 (by decide)),if_neg (by decide),if_pos (show (Nat.ble 2 11&&true)=true by decide)]
   exact kc7 (T:=334) (by decide) (by first | rfl | (rw[hL];rfl))
  |n+12,h=>exact absurd h (by omega)
 ·rw[if_neg L] at hc
  have hL:aaQ y=0:=by unfold aaQ;rw[if_neg L]
  have hb:Nat.ble 7 c=false:=by
   cases z:Nat.ble 7 c
   ·rfl
   ·exact absurd (dN z) (by omega)
  have hd:c%7=((db y+6)%7).toNat:=by omega
  rw[hb,hd,cS,cS,if_neg bB,if_neg bB,if_neg (fun z=>L z.2)]
  match m,hm with
  |0,_=>
   rw[show (((0:Nat):Int)+1)=1 from rfl,aKB]
   exact kc7 (T:=0) (by decide) (by first | rfl | (rw[hL];rfl))
  |1,_=>
   rw[show (((1:Nat):Int)+1)=2 from rfl,aPO]
   exact kc7 (T:=31) (by decide) (by first | rfl | (rw[hL];rfl))
  |2,_=>
   rw[show (((2:Nat):Int)+1)=3 from rfl,aP4]
   exact kc7 (T:=59) (by decide) (by first | rfl | (rw[hL];rfl))
  |3,_=>
   rw[show (((3:Nat):Int)+1)=4 from rfl,aIX]
   exact kc7 (T:=90) (by decide) (by first | rfl | (rw[hL];rfl))
  |4,_=>
   rw[show (((4:Nat):Int)+1)=5 from rfl,aMU]
   exact kc7 (T:=120) (by decide) (by first | rfl | (rw[hL];rfl))
  |5,_=>
   rw[show (((5:Nat):Int)+1)=6 from rfl,aIC]
   exact kc7 (T:=151) (by decide) (by first | rfl | (rw[hL];rfl))
  |6,_=>
   rw[show (((6:Nat):Int)+1)=7 from rfl,aMN]
   exact kc7 (T:=181) (by decide) (by first | rfl | (rw[hL];rfl))
  |7,_=>
   rw[show (((7:Nat):Int)+1)=8 from rfl,aL7]
   exact kc7 (T:=212) (by decide) (by first | rfl | (rw[hL];rfl))
  |8,_=>
   rw[show (((8:Nat):Int)+1)=9 from rfl,aLC]
   exact kc7 (T:=243) (by decide) (by first | rfl | (rw[hL];rfl))
  |9,_=>
   rw[show (((9:Nat):Int)+1)=10 from rfl,aHN]
   exact kc7 (T:=273) (by decide) (by first | rfl | (rw[hL];rfl))
  |10,_=>
   rw[show (((10:Nat):Int)+1)=11 from rfl,aDM]
   exact kc7 (T:=304) (by decide) (by first | rfl | (rw[hL];rfl))
  |11,_=>
   rw[show (((11:Nat):Int)+1)=12 from rfl,aC4]
   exact kc7 (T:=334) (by decide) (by first | rfl | (rw[hL];rfl))
  |n+12,h=>exact absurd h (by omega)
noncomputable def abT(k:Int):Int:=if 83<k then 2 else k / 7+1
noncomputable def bnd(k:Int):Int:=if 83<k then 40 else 12
theorem akX{k:Int}(h0:0<=k)(h1:k<=90):1<=abT k/\abT k<=12:=by unfold abT;split<;>omega
theorem anM{k:Int}(h0:0<=k)(h1:k<=90)(y:Int):∃j:Nat,(j:Int)<bnd k/\kindOf (y+j) (abT k)=k/\∀i:Nat,i<j->kindOf (y+i) (abT k)≠k:=by
 obtain⟨r0,_⟩:=avM y
 have hk:k.toNat<91:=by omega
 obtain⟨j,hj,hit⟩:=aEF hk r0
 have em:abT k=(arX k.toNat:Nat)+1:=by
  unfold abT arX
  by_cases c:83<k
  ·rw[if_pos c,if_pos (Nat.ble_eq_true_of_le (by omega))];rfl
  ·rw[if_neg c,if_neg (fun z=>c (by have:=dN z;omega))];omega
 have hm:arX k.toNat<12:=by
  have:=akX h0 h1
  omega
 have eb:bnd k=(aj5 k.toNat:Nat):=by
  unfold bnd aj5
  by_cases c:83<k
  ·rw[if_pos c,if_pos (Nat.ble_eq_true_of_le (by omega))];rfl
  ·rw[if_neg c,if_neg (fun z=>c (by have:=dN z;omega))];rfl
 have cn:∀a:Nat,afI a=afI (a%400):=fun a=>by
  unfold afI
  have e4:a%400%4=a%4:=by omega
  have e5:a%400%100=a%100:=by omega
  have e6:a%400%400=a%400:=by omega
  rw[e4,e5,e6]
  have:(365*a+(a+3) / 4-(a+99) / 100+(a+399) / 400+6)%7=(365*(a%400)+(a%400+3) / 4-(a%400+99) / 100+(a%400+399) / 400+6)%7:=by
   have h1:(a+3) / 4=100*(a / 400)+(a%400+3) / 4:=by omega
   have h2:(a+99) / 100=4*(a / 400)+(a%400+99) / 100:=by omega
   have h3:(a+399) / 400=a / 400+(a%400+399) / 400:=by omega
   have h4:a=400*(a / 400)+a%400:=by omega
   have hq:(a%400+99) / 100<=365*(a%400)+(a%400+3) / 4:=by omega
   rw[h1,h2,h3]
   generalize (a%400+3) / 4=q1 at hq ⊢
   generalize (a%400+99) / 100=q2 at hq ⊢
   generalize (a%400+399) / 400=q3
   omega
  rw[this]
 have ex:∃j:Nat,(j:Int)<bnd k/\kindOf (y+j) (abT k)=k:=by
  refine⟨j,by omega,?_⟩
  rw[em,axU _ hm]
  have e:((y+(j:Int))%400).toNat=((y%400).toNat+j)%400:=by omega
  rw[e,←cn,hit]
  omega
 clear hit hj
 have key:∀n:Nat,(∃j:Nat,j<n/\kindOf (y+j) (abT k)=k)->∃j:Nat,j<n/\kindOf (y+j) (abT k)=k/\∀i:Nat,i<j->kindOf (y+i) (abT k)≠k:=by
  intro n
  induction n with
  |zero=>intro ⟨j,hj,_⟩;omega
  |succ n ih=>
   intro ⟨j,hj,e⟩
   by_cases c:∃j:Nat,j<n/\kindOf (y+j) (abT k)=k
   ·obtain⟨i,hi,r⟩:=ih c
    exact⟨i,by omega,r⟩
   ·have hjn:j=n:=by
     rcases cV j n with z | z
     ·exact absurd ⟨j,z,e⟩ c
     ·omega
    subst hjn
    exact⟨j,hj,e,fun i hi z=>c ⟨i,hi,z⟩⟩
 obtain⟨j,hj,e⟩:=ex
 obtain⟨i,hi,r⟩:=key (j+1) ⟨j,by omega,e⟩
 exact⟨i,by omega,r⟩
noncomputable def ai9(M:Int):Int:=db (M / 12)+ahead (M / 12) (M%12+1)
noncomputable def aq3(M:Int):Int:=aaD (M / 12) (M%12+1)
noncomputable def abO(M:Int):Int:=kindOf (M / 12) (M%12+1)
theorem aeW(M:Int):ai9 (M+1)=ai9 M+aq3 M:=by
 unfold ai9 aq3
 by_cases c:M%12=11
 ·rw[show (M+1) / 12=M / 12+1 by omega,show (M+1)%12=0 by omega,c]
  have a1:=adA (y:=M / 12) (m:=12) (by decide)
  have a2:=akS (M / 12)
  have a3:=ajS (M / 12)
  have a4:ahead (M / 12+1) (0+1)=0:=rfl
  have e:(12:Int)+1=13:=rfl
  have e':(11:Int)+1=12:=rfl
  rw[e] at a1
  rw[a4,e']
  omega
 ·rw[show (M+1) / 12=M / 12 by omega,show (M+1)%12=M%12+1 by omega,adA (by omega)]
  omega
theorem avZ{k:Int}(h0:0<=k)(h1:k<=90)(y:Int):∃N:Int,12*y<=N/\N<12*y+480/\abO N=k:=by
 obtain⟨j,hj,hk,_⟩:=anM h0 h1 y
 have hm:=akX h0 h1
 have hb:bnd k<=40:=by unfold bnd;split<;>decide
 refine⟨12*(y+j)+abT k-1,by omega,by omega,?_⟩
 unfold abO
 rw[show (12*(y+(j:Int))+abT k-1) / 12=y+j by omega,show (12*(y+(j:Int))+abT k-1)%12+1=abT k by omega]
 exact hk
theorem as8{k:Int}(h0:0<=k)(h1:k<=90)(M:Int):∃N:Int,M+1<=N/\N<=M+491/\abO N=k:=by
 obtain⟨N,a,b,c⟩:=avZ h0 h1 (M / 12+1)
 exact⟨N,by omega,by omega,c⟩
theorem axF{k:Int}(h0:0<=k)(h1:k<=90)(M:Int):∃N:Int,M-491<=N/\N<=M-1/\abO N=k:=by
 obtain⟨N,a,b,c⟩:=avZ h0 h1 (M / 12-40)
 exact⟨N,by omega,by omega,c⟩
noncomputable def agQ(t:Int):Prop:=0<=t/\t<2^1440
noncomputable def mnN(g:Nat->Int):Nat->Int
 |0=>0
 |n+1=>Builtin.bitOr (mnN g n) (g n*2^(1440*n))
theorem atW{g:Nat->Int}:∀{n:Nat},(∀j,j<n->agQ (g j))->0<=mnN g n
 |0,_=>aZ 0
 |n+1,h=>ahZ (atW fun j hj=>h j (by omega)) (Int.mul_nonneg (h n (by omega)).1 (bR (aaM _)))
theorem ayU{g:Nat->Int}(i:Nat):∀{n:Nat},(∀j,j<n->agQ (g j))->tb (mnN g n) i=(decide (i / 1440<n)&&tb (g (i / 1440)) (i%1440))
 |0,_=>by
  show tb 0 i=_
  rw[aaT,eF (cU _),cW]
 |n+1,h=>by
  have h0:∀j,j<n->agQ (g j):=fun j hj=>h j (by omega)
  have hn:=h n (by omega)
  show tb (Builtin.bitOr (mnN g n) (g n*2^(1440*n))) i=_
  rw[amJ (atW h0) (Int.mul_nonneg hn.1 (bR (aaM _))),ayU i h0,anT hn.1]
  rcases Nat.lt_trichotomy (i / 1440) n with c | c | c
  ·rw[eC c,eC (show i / 1440<n+1 by omega),eF (show ¬1440*n<=i by omega),cW,Bool.or_false]
  ·rw[eF (show ¬i / 1440<n by omega),eC (show i / 1440<n+1 by omega),eC (show 1440*n<=i by omega),c,show i-1440*n=i%1440 by omega]
   rfl
  ·rw[eF (show ¬i / 1440<n by omega),eF (show ¬i / 1440<n+1 by omega),acV hn.2 (show 1440<=i-1440*n by omega),cS]
   rfl
structure Cal(S W:Int->Int):Prop where
 up:∀M,S M<S (M+1)
 nn:∀M,0<=W M
 bit:∀M i,tb (W M) i=true->(i:Int)<S (M+1)-S M
noncomputable def Ev(S W:Int->Int)(t:Int):Prop:=∃M:Int,S M<=t/\t<S (M+1)/\tb (W M) (t-S M).toNat=true
variable{S W:Int->Int}
theorem Cal.le(h:Cal S W)(M:Int):∀n:Nat,S M<=S (M+n)
 |0=>by simp
 |n+1=>by
  have:=h.le M n
  have:=h.up (M+n)
  rw[show M+((n+1:Nat):Int)=M+n+1 by omega]
  omega
theorem Cal.mono(h:Cal S W){M N:Int}(hl:M<=N):S M<=S N:=by
 have:=h.le M (N-M).toNat
 rw[bU (by omega),show M+(N-M)=N by omega] at this
 exact this
theorem Cal.uniq(h:Cal S W){M N t:Int}(h1:S M<=t)(h2:t<S (M+1))(h3:S N<=t)(h4:t<S (N+1)):M=N:=by
 rcases Int.lt_trichotomy M N with c | c | c
 ·have:=h.mono (show M+1<=N by omega);omega
 ·exact c
 ·have:=h.mono (show N+1<=M by omega);omega
theorem axP(h:Cal S W){M mo:Int}{l:Nat}(none:∀t,mo<=t->t<S M->¬Ev S W t)(hl:tb (W M / 2^(max (mo-S M) 0).toNat) l=true)(hj:∀j,j<l->tb (W M / 2^(max (mo-S M) 0).toNat) j=false):
  Ev S W (S M+max (mo-S M) 0+l)/\mo<=S M+max (mo-S M) 0+l/\∀t,mo<=t->t<S M+max (mo-S M) 0+l->¬Ev S W t:=by
 generalize e:max (mo-S M) 0=p at hl hj ⊢
 have hp:0<=p/\mo-S M<=p/\(p=0∨p=mo-S M):=by omega
 rw[ag9 (h.nn M)] at hl
 have hb:=h.bit M _ hl
 refine⟨⟨M,by omega,by omega,?_⟩,by omega,?_⟩
 ·rw[show (S M+p+(l:Int)-S M).toNat=p.toNat+l by omega]
  exact hl
 ·intro t h1 h2 hE
  rcases Int.lt_or_le t (S M) with c | c
  ·exact none t h1 c hE
  ·obtain⟨N,a1,a2,a3⟩:=hE
   obtain rfl:=h.uniq c (by omega) a1 a2
   have:=hj (t-S M-p).toNat (by omega)
   rw[ag9 (h.nn M),show p.toNat+(t-S M-p).toNat=(t-S M).toNat by omega,a3] at this
   cases this
theorem asH(h:Cal S W){M mo:Int}(none:∀t,mo<=t->t<S M->¬Ev S W t)(hz:W M / 2^(max (mo-S M) 0).toNat=0):∀t,mo<=t->t<S (M+1)->¬Ev S W t:=by
 intro t h1 h2 hE
 rcases Int.lt_or_le t (S M) with c | c
 ·exact none t h1 c hE
 ·obtain⟨N,a1,a2,a3⟩:=hE
  obtain rfl:=h.uniq c h2 a1 a2
  generalize e:max (mo-S M) 0=p at hz
  have hp:0<=p/\mo-S M<=p/\(p=0∨p=mo-S M):=by omega
  have z:=ag9 (h.nn M) p.toNat (t-S M-p).toNat
  rw[hz,aaT,show p.toNat+(t-S M-p).toNat=(t-S M).toNat by omega,a3] at z
  cases z
theorem aAC(h:Cal S W){M mo c:Int}{l:Nat}(hc:S (M+1)-S M<=c)(hm:S M<=mo)(none:∀t,S (M+1)<=t->t<=mo->¬Ev S W t)(hl:tb (Builtin.bitAnd (W M) (2*2^(min (mo-S M) c).toNat-1)) l=true)(hj:∀j,l<j->tb (Builtin.bitAnd (W M) (2*2^(min (mo-S M) c).toNat-1)) j=false):
  Ev S W (S M+l)/\S M+l<=mo/\∀t,S M+l<t->t<=mo->¬Ev S W t:=by
 generalize e:min (mo-S M) c=p at hl hj
 have up:=h.up M
 have hp:0<=p/\p<=mo-S M/\p<=c/\(p=c∨p=mo-S M):=by omega
 have e2:(2:Int)*2^p.toNat-1=2^(p.toNat+1)-1:=by rw[Int.pow_succ,Int.mul_comm]
 have bits:∀j,tb (Builtin.bitAnd (W M) (2*2^p.toNat-1)) j=(tb (W M) j&&decide (j<p.toNat+1)):=fun j=>by
  rw[e2,acL (h.nn M) (by have:=aaM (p.toNat+1);omega),ajM]
 rw[bits,bF,eE] at hl
 have hb:=h.bit M _ hl.1
 refine⟨⟨M,by omega,by omega,?_⟩,by omega,?_⟩
 ·rw[show (S M+(l:Int)-S M).toNat=l by omega]
  exact hl.1
 ·intro t h1 h2 hE
  rcases Int.lt_or_le t (S (M+1)) with d | d
  ·obtain⟨N,a1,a2,a3⟩:=hE
   obtain rfl:=h.uniq (show S M<=t by omega) d a1 a2
   have z:=hj (t-S M).toNat (by omega)
   rw[bits,a3,eC (show (t-S M).toNat<p.toNat+1 by omega)] at z
   cases z
  ·exact none t d h2 hE
theorem awK(h:Cal S W){M mo c:Int}(hc:S (M+1)-S M<=c)(hm:S M<=mo)(none:∀t,S (M+1)<=t->t<=mo->¬Ev S W t)(hz:Builtin.bitAnd (W M) (2*2^(min (mo-S M) c).toNat-1)=0):∀t,S M<=t->t<=mo->¬Ev S W t:=by
 intro t h1 h2 hE
 rcases Int.lt_or_le t (S (M+1)) with d | d
 ·obtain⟨N,a1,a2,a3⟩:=hE
  obtain rfl:=h.uniq h1 d a1 a2
  generalize e:min (mo-S M) c=p at hz
  have hp:0<=p/\p<=mo-S M/\p<=c/\(p=c∨p=mo-S M):=by omega
  have e2:(2:Int)*2^p.toNat-1=2^(p.toNat+1)-1:=by rw[Int.pow_succ,Int.mul_comm]
  have z:tb (Builtin.bitAnd (W M) (2*2^p.toNat-1)) (t-S M).toNat=true:=by
   rw[e2,acL (h.nn M) (by have:=aaM (p.toNat+1);omega),ajM,a3,eC (show (t-S M).toNat<p.toNat+1 by omega)]
   rfl
  rw[hz,aaT] at z
  cases z
 ·exact none t d h2 hE
theorem ah3{A:Int->Prop}(hA:∀M,A M->W M=0)(hk:∀M,∃N,A N/\W M=W N):∀t,¬Ev S W t:=by
 rintro t ⟨M,_,_,h⟩
 obtain⟨N,a,e⟩:=hk M
 rw[e,hA N a,aaT] at h
 cases h
theorem aA6{c d m:Int}(hc:0<=c)(hd:0<=d)(hm:0<=m)(h0:∀i,(tb c i&&tb d i)=false)(h1:∀i,(tb c i||tb d i)=tb m i):c+d=m:=by
 have ea:Builtin.bitAnd c d=0:=abM (ag0 hc hd) (aZ 0) fun i=>by rw[acL hc hd,h0,aaT]
 have eo:Builtin.bitOr c d=m:=abM (ahZ hc hd) hm fun i=>by rw[amJ hc hd,h1]
 rw[←eo,bitOr_and,ea]
 omega
theorem auS{m:Int}(h:0<m):∃k,tb m k=true/\∀j,j<k->tb m j=false:=by
 have hex:∃i,tb m i=true:=by
  cases Classical.em (∃i,tb m i=true) with
  |inl z=>exact z
  |inr z=>
   have:m=0:=abM (by omega) (aZ 0) fun i=>by
    rw[aaT]
    cases e:tb m i with
    |false=>rfl
    |true=>exact absurd ⟨i,e⟩ z
   omega
 obtain⟨i,hi⟩:=hex
 have key:∀n i,i<=n->tb m i=true->∃k,tb m k=true/\∀j,j<k->tb m j=false:=by
  intro n
  induction n with
  |zero=>
   intro i hi h
   obtain rfl:i=0:=by omega
   exact⟨0,h,fun j hj=>absurd hj (cU _)⟩
  |succ n ih=>
   intro i hi h
   cases Classical.em (∃j,j<i/\tb m j=true) with
   |inl z=>
    obtain⟨j,hj,hb⟩:=z
    exact ih j (by omega) hb
   |inr z=>
    exact⟨i,h,fun j hj=>by
     cases e:tb m j with
     |false=>rfl
     |true=>exact absurd ⟨j,hj,e⟩ z⟩
 exact key i i (aS _) hi
theorem aA9{m:Int}(h:0<m){k:Nat}(hk:tb m k=true)(hj:∀j,j<k->tb m j=false):Builtin.bitAnd m (-m)=2^k:=by
 have hm1:0<=m-1:=by omega
 have e:Builtin.bitAnd m (-m)=m-Builtin.bitAnd m (m-1):=by
  rw[bitAnd_pn (by omega) (by omega),bitAnd_pp (by omega) hm1]
  have:Builtin.bitNot (-m)=m-1:=by unfold Builtin.bitNot;omega
  rw[this]
 obtain⟨n,rfl⟩:=cC (bR h)
 have hkn:n.testBit k=true:=hk
 have hjn:∀j,j<k->n.testBit j=false:=hj
 have em:n%2^k=0:=Nat.eq_of_testBit_eq fun i=>by
  rw[Nat.testBit_mod_two_pow,Nat.zero_testBit]
  by_cases c:i<k
  ·rw[eC c,hjn i c];rfl
  ·rw[eF c];rfl
 have hd:n=2^k*(n / 2^k):=by
  have:=Nat.div_add_mod n (2^k)
  omega
 have ho:(n / 2^k).testBit 0=true:=by rw[Nat.testBit_div_two_pow,Nat.zero_add];exact hkn
 have ho:n / 2^k%2=1:=by
  rw[Nat.testBit_zero] at ho
  exact eA ho
 obtain⟨q,hq⟩:∃q,n / 2^k=2*q+1:=⟨n / 2^k / 2,by omega⟩
 have hp:=Nat.two_pow_pos k
 have e1:n=2^(k+1)*q+2^k:=by rw[hd,hq,Nat.mul_add,Nat.mul_one,←Nat.mul_assoc,Nat.pow_succ]
 have e2:n-1=2^(k+1)*q+(2^k-1):=by omega
 have hl:2^k-1<2^(k+1):=by rw[Nat.pow_succ];omega
 have hl2:2^k<2^(k+1):=by rw[Nat.pow_succ];omega
 have tb1:∀i,tb ((n:Int)-1) i=(if i<k+1 then (2^k-1).testBit i else q.testBit (i-(k+1))):=fun i=>by
  unfold tb
  have:((n:Int)-1).toNat=n-1:=by omega
  rw[this,e2,Nat.testBit_two_pow_mul_add _ hl]
 have tbn:∀i,tb (n:Int) i=(if i<k+1 then (2^k).testBit i else q.testBit (i-(k+1))):=fun i=>by
  unfold tb
  rw[bQ,e1,Nat.testBit_two_pow_mul_add _ hl2]
 have hz:∀i,(tb (2^k) i&&tb (Builtin.bitAnd (n:Int) ((n:Int)-1)) i)=false:=fun i=>by
  rw[an2,acL (by omega) hm1,tb1]
  by_cases c:k=i
  ·subst c
   rw[if_pos (by omega),Nat.testBit_two_pow_sub_one]
   simp
  ·rw[eF c];rfl
 have hs:=aA6 (c:=2^k) (d:=Builtin.bitAnd (n:Int) ((n:Int)-1)) (m:=(n:Int)) (bR (aaM k)) (ag0 (by omega) hm1) (by omega) hz (fun i=>by
  rw[an2,acL (by omega) hm1,tb1,tbn]
  by_cases c:i<k+1
  ·rw[if_pos c,if_pos c,Nat.testBit_two_pow_sub_one,Nat.testBit_two_pow]
   by_cases d:k=i
   ·subst d;simp
   ·rw[eF d];simp
  ·rw[if_neg c,if_neg c,eF (by omega)]
   cases q.testBit (i-(k+1))<;>rfl)
 omega
theorem ax1(k:Nat):Builtin.Int.intBits (2^k)=k+1:=by
 unfold Builtin.Int.intBits
 have h0:((2:Int)^k==0)=false:=beq_eq_false_iff_ne.mpr (Int.ne_of_gt (aaM k))
 rw[h0]
 have:((2:Int)^k).natAbs=2^k:=by rw[←aa4,Int.natAbs_natCast]
 rw[this,Nat.log2_two_pow]
 rfl
noncomputable abbrev TrX:=Int×Int×List Nat
noncomputable def TpX(H:Hp)(v:V)(z:TrX):Prop:=∃t:Addr,v=.ref t/\H t=some (.tup [.int z.1,.int z.2.1,.str (Tx z.2.2)])
noncomputable def an3(sts:List TrX)(a b:Int)(tm:List Nat):List TrX:=match sts.getLast? with
 |some s=>if s.2.2=tm then sts.dropLast++[(s.1,b,tm)] else sts++[(a,b,tm)]
 |none=>[(a,b,tm)]
theorem as4{H H':Hp}(h:∀b xs,H b=some (.tup xs)->H' b=some (.tup xs)){v:V}{s:TrX}(z:TpX H v s):TpX H' v s:=by
 obtain⟨t,e,ht⟩:=z
 exact⟨t,e,h _ _ ht⟩
theorem am4(sts:List TrX)(s:TrX)(a b:Int)(tm:List Nat):an3 (sts++[s]) a b tm=if s.2.2=tm then sts++[(s.1,b,tm)] else sts++[s]++[(a,b,tm)]:=by
 unfold an3
 simp
theorem axV{α β:Type}{F:α->β->Prop}:∀{l:List α} {v:α} {r:List β},Paired F (l++[v]) r->∃r0 s,r=r0++[s]/\Paired F l r0/\F v s
 |[],v,_,.cons h .nil=>⟨[],_,rfl,.nil,h⟩
 |x::l,v,_,.cons h t=>by
  obtain⟨r0,s,rfl,h1,h2⟩:=axV t
  exact⟨_::r0,s,rfl,.cons h h1,h2⟩
theorem aBG{α:Type}{l:List α}(h:l≠[]):∃l0 v,l=l0++[v]:=⟨l.dropLast,l.getLast h,(List.dropLast_concat_getLast h).symm⟩
theorem avV{l:List V}{v:V}:atI (l++[v]) (-1)=some v:=ayG l v
theorem aBY{l:List V}{v:V}:ixN (l++[v]).length (-1)=some l.length:=by
 unfold ixN
 simp
 omega
theorem ayX{l:List V}{v u:V}:(l++[v]).set l.length u=l++[u]:=by simp
noncomputable def dIn(m3:Int)(kd kw:Option (List Mk))(k:Int):Int:=if tb m3 (mnA k).toNat=true then aaY kd kw (lnA k) (k%7) else 0
noncomputable def aaP(tm m3:Int)(kd kw:Option (List Mk))(k:Int)(j:Nat):Int:=if tb (dIn m3 kd kw k) (j+1)=true then tm else 0
noncomputable def acF(f:Int->Nat->Int)(k:Int):List Int:=(List.range (lnA k).toNat).map (f k)
theorem aDT{c:Cs}{H:Hp}{v:V}{ko:Option (List Mk)}(h:DV c H v ko):∀ks,ko=some ks->∀k∈ks,k.ok:=fun ks e=>by
 subst e
 obtain⟨_,_,_,_,_,z⟩:=h
 exact z
theorem aFR{c:Cs}{H:Hp}{dv wv:V}{m3 k:Int}{kd kw:Option (List Mk)}(hd:DV c H dv kd)(hw:DV c H wv kw)(h0:0<=k)(h1:k<=90):0<=dIn m3 kd kw k:=by
 have ml:=(adH h0 h1).2
 unfold dIn
 split
 ·unfold aaY
  split
  ·have:(0:Int)<2^(lnA k).toNat:=aaM _
   omega
  ·exact afR (b:=false) ml (aDT hw) (afR (b:=false) ml (aDT hd) (aZ 0))
 ·exact aZ 0
theorem azR{h m:Int}(h0:0<=h)(h1:h<2^24)(hm:0<=m){r:Nat}(a:tb h (r / 60)=true)(b:tb m (r%60)=true):tb (tmF h m) r=true:=by
 unfold tmF
 rw[ab1 (fun z hz=>by
  obtain⟨y,_,rfl⟩:=bL.mp hz
  exact Int.mul_nonneg hm (bR (aaM _))),List.any_eq_true]
 have hlt:r / 60<24:=by
  rcases cV (r / 60) 24 with c | c
  ·exact c
  ·rw[acV h1 c] at a
   cases a
 refine⟨_,bL.mpr ⟨((r / 60:Nat):Int),?_,rfl⟩,?_⟩
 ·rw[anW h0 h1,flt_mem]
  exact⟨r / 60,hlt,a,by omega⟩
 ·rw[show (60*((r / 60:Nat):Int)).toNat=60*(r / 60) by omega,anT hm,eC (show 60*(r / 60)<=r by omega),show r-60*(r / 60)=r%60 by omega,b]
  rfl
theorem aDO{h m:Int}(h0:0<=h)(h1:h<2^24)(hm:0<=m)(hm2:m<2^60):agQ (tmF h m):=by
 unfold tmF
 rw[anW h0 h1]
 obtain⟨e,a,b⟩:=avG (h:=h) hm hm2 24
 rw[e]
 exact⟨a,b⟩
theorem atD(g:Int->Nat->Int)(k:Int):(acF g k).length=(lnA k).toNat:=by unfold acF;rw[aU,cE]
theorem aDA{g:Int->Nat->Int}{k:Int}{j:Nat}(h:j<(lnA k).toNat):(acF g k).getD j 0=g k j:=by
 unfold acF
 rw[dP,bA,List.getElem?_range h]
 rfl
noncomputable def wK(g:Int->Nat->Int)(k:Int):Int:=mnN (fun j=>(acF g k).getD j 0) (acF g k).length
noncomputable def SM(M:Int):Int:=1440*ai9 M
noncomputable def WM(g:Int->Nat->Int)(M:Int):Int:=wK g (abO M)
noncomputable def GOk(g:Int->Nat->Int):Prop:=∀k j,agQ (g k j)
theorem aP3{g:Int->Nat->Int}(hg:GOk g){k:Int}:∀t∈acF g k,agQ t:=fun t ht=>by
 obtain⟨j,_,rfl⟩:=bL.mp ht
 exact hg k j
theorem azX{g:Int->Nat->Int}(hg:GOk g){k:Int}(j:Nat)(hj:j<(acF g k).length):agQ ((acF g k).getD j 0):=by
 rw[aDA (by rw[atD] at hj;exact hj)]
 exact hg k j
theorem ab5(M:Int):0<=abO M/\abO M<=90:=ajJ (by omega) (by omega)
theorem avB(M:Int):lnA (abO M)=aq3 M:=(ac2 (y:=M / 12) (m:=M%12+1) (by omega) (by omega)).2
theorem ajK(M:Int):28<=aq3 M/\aq3 M<=31:=anG (by omega) (by omega)
theorem au9{g:Int->Nat->Int}(hg:GOk g)(k:Int)(i:Nat):tb (wK g k) i=(decide (i / 1440<(lnA k).toNat)&&tb (g k (i / 1440)) (i%1440)):=by
 unfold wK
 rw[ayU i (fun j hj=>azX hg j hj),atD]
 by_cases c:i / 1440<(lnA k).toNat
 ·show (_&&tb ((acF g k).getD (i / 1440) 0) _)=_
  rw[aDA c]
 ·rw[eF c]
  rfl
theorem az7{g:Int->Nat->Int}(hg:GOk g):Cal SM (WM g) where
 up M:=by
  unfold SM
  have:=aeW M
  have:=ajK M
  omega
 nn M:=atW fun j hj=>azX hg j hj
 bit M i h:=by
  unfold WM at h
  rw[au9 hg,bF,eE,avB] at h
  unfold SM
  have:=aeW M
  omega
noncomputable abbrev EvG(g:Int->Nat->Int)(t:Int):Prop:=Ev SM (WM g) t
theorem azF{t y m k:Int}(ok:OkD y m k)(e:adW y m k=t / 1440):SM (12*y+m-1)<=t/\t<SM (12*y+m-1+1)/\(t-SM (12*y+m-1)).toNat=1440*(k-1).toNat+(t%1440).toNat/\abO (12*y+m-1)=kindOf y m/\(k-1).toNat<(aaD y m).toNat/\(k-1).toNat+1=k.toNat:=by
 have hm:=ok.1
 have hk:=ok.2
 have e1:(12*y+m-1) / 12=y:=by omega
 have e2:(12*y+m-1)%12+1=m:=by omega
 have ek:abO (12*y+m-1)=kindOf y m:=by unfold abO;rw[e1,e2]
 have ed:ai9 (12*y+m-1)=db y+ahead y m:=by unfold ai9;rw[e1,e2]
 have el:aq3 (12*y+m-1)=aaD y m:=by unfold aq3;rw[e1,e2]
 have up:=aeW (12*y+m-1)
 have e':db y+ahead y m+k-1=t / 1440:=e
 rw[ed,el] at up
 clear e e1 e2 hm ok
 unfold SM
 rw[ed,up]
 clear ed el up
 generalize db y+ahead y m=A at *
 generalize aaD y m=L at *
 refine⟨by omega,by omega,by omega,ek,by omega,by omega⟩
theorem aE8(t:Int)(n:Nat):(1440*n+(t%1440).toNat) / 1440=n/\(1440*n+(t%1440).toNat)%1440=(t%1440).toNat/\(t%1440).toNat / 60=(t%1440 / 60).toNat/\(t%1440).toNat%60=(t%1440%60).toNat:=⟨by omega,by omega,by omega,by omega⟩
theorem aKI{m0 m1 m3 t y m k:Int}{kd kw:Option (List Mk)}(hn:0<=m0/\0<=m1/\0<=m3)(hb:m1<2^24/\m0<2^60)(hg:GOk (aaP (tmF m1 m0) m3 kd kw))(ok:OkD y m k)(e:adW y m k=t / 1440)(h:shK m0 m1 m3 kd kw (t / 1440) (t%1440) y m k=.non):EvG (aaP (tmF m1 m0) m3 kd kw) t:=by
 unfold shK at h
 split at h
 ·cases h
 split at h
 ·cases h
 split at h
 ·cases h
 split at h
 ·cases h
 rename_i c1 c2 c3 c4
 have f7:=anV ok e
 have mk:=ac2 (y:=y) ok.1.1 ok.1.2
 obtain⟨a1,a2,ei,ek,a5,a6⟩:=azF ok e
 obtain⟨u1,u2,u3,u4⟩:=aE8 t (k-1).toNat
 refine⟨12*y+m-1,a1,a2,?_⟩
 unfold WM
 rw[au9 hg,ei,u1,u2,ek,mk.2,eC a5]
 have eg:aaP (tmF m1 m0) m3 kd kw (kindOf y m) (k-1).toNat=tmF m1 m0:=by
  unfold aaP dIn
  rw[mk.1,mk.2,if_pos (ah9 c1),f7,a6,if_pos (ah9 c2)]
 rw[eg,azR hn.2.1 hb.1 hn.1 (by rw[u3];exact ah9 c3) (by rw[u4];exact ah9 c4)]
 rfl
theorem aE7{h m m3:Int}{kd kw:Option (List Mk)}(h0:0<=h)(h1:h<2^24)(hm:0<=m)(hm2:m<2^60):GOk (aaP (tmF h m) m3 kd kw):=fun k j=>by
 unfold aaP
 split
 ·exact aDO h0 h1 hm hm2
 ·exact⟨aZ 0,aaM _⟩
theorem atZ{g:Int->Nat->Int}{M mo:Int}(hc:Cal SM (WM g))(hM:SM M<=mo)(hm:mo<SM (M+1))(h:∀t,mo<=t->t<SM (M+492)->¬EvG g t):∀t,¬EvG g t:=by
 refine ah3 (A:=fun N=>M+1<=N/\N<=M+491) (fun N hN=>?_) (fun N=>?_)
 ·rcases Int.lt_or_le 0 (WM g N) with c | c
  ·obtain⟨l,hl,_⟩:=auS c
   exfalso
   have hb:=hc.bit N l hl
   have h1:=hc.mono (show M+1<=N by omega)
   have h2:=hc.mono (show N+1<=M+492 by omega)
   exact h (SM N+l) (by omega) (by omega) ⟨N,by omega,by omega,by rw[show (SM N+(l:Int)-SM N).toNat=l by omega];exact hl⟩
  ·have:=hc.nn N
   omega
 ·obtain⟨N',a,b,c⟩:=as8 (ab5 N).1 (ab5 N).2 M
  exact⟨N',⟨a,b⟩,by unfold WM;rw[c]⟩
theorem axA{g:Int->Nat->Int}{M mo:Int}(hc:Cal SM (WM g))(hM:SM M<=mo)(hm:mo<SM (M+1))(h:∀t,SM (M-491)<=t->t<=mo->¬EvG g t):∀t,¬EvG g t:=by
 refine ah3 (A:=fun N=>M-491<=N/\N<=M-1) (fun N hN=>?_) (fun N=>?_)
 ·rcases Int.lt_or_le 0 (WM g N) with c | c
  ·obtain⟨l,hl,_⟩:=auS c
   exfalso
   have hb:=hc.bit N l hl
   have h1:=hc.mono (show M-491<=N by omega)
   have h2:=hc.mono (show N+1<=M by omega)
   exact h (SM N+l) (by omega) (by omega) ⟨N,by omega,by omega,by rw[show (SM N+(l:Int)-SM N).toNat=l by omega];exact hl⟩
  ·have:=hc.nn N
   omega
 ·obtain⟨N',a,b,c⟩:=axF (ab5 N).1 (ab5 N).2 M
  exact⟨N',⟨a,b⟩,by unfold WM;rw[c]⟩
theorem anU(M:Int):∀n:Nat,SM (M+n)<=SM M+44640*n
 |0=>by simp
 |n+1=>by
  have:=anU M n
  have:=aeW (M+n)
  have:=ajK (M+n)
  rw[show M+((n+1:Nat):Int)=M+n+1 by omega]
  unfold SM at *
  omega
noncomputable def lmX(sts:List TrX):Int:=match sts.getLast? with
 |some s=>if s.2.2=[109,105,110,117,116,101] then 1 else 0
 |none=>0
theorem axZ(sts:List TrX):0<=lmX sts/\lmX sts<=1:=by
 unfold lmX
 split
 ·split<;>decide
 ·decide
theorem aCK(sts:List TrX)(a b:Int)(tm:List Nat):lmX (an3 sts a b tm)=if tm=[109,105,110,117,116,101] then 1 else 0:=by
 unfold an3
 split
 ·split
  ·unfold lmX;rw[List.getLast?_concat]
  ·unfold lmX;rw[List.getLast?_concat]
 ·rfl
theorem aAK(sts:List TrX)(a b:Int)(tm:List Nat):(an3 sts a b tm).length<=sts.length+1/\(tm=[109,105,110,117,116,101]->lmX sts=1->(an3 sts a b tm).length=sts.length):=by
 rcases List.eq_nil_or_concat sts with rfl | ⟨l,s,rfl⟩
 ·exact⟨aS _,fun _ h=>by cases h⟩
 ·rw[List.concat_eq_append,am4]
  split
  ·refine⟨by simp,fun _ _=>by simp⟩
  ·rename_i c
   refine⟨by simp,fun e h=>?_⟩
   exfalso
   unfold lmX at h
   rw[List.getLast?_concat] at h
   by_cases z:s.2.2=[109,105,110,117,116,101]
   ·exact c (z.trans e.symm)
   ·have h:(if s.2.2=[109,105,110,117,116,101] then (1:Int) else 0)=1:=h
    rw[if_neg z] at h
    cases h
theorem aAR{sts:List TrX}{a b mo la be:Int}{tm:List Nat}(h:(sts.length:Int)<=2*(mo / 60-be / 60)+lmX sts)(h1:mo<=la)(h2:tm≠[109,105,110,117,116,101]->(la+1)%60=0):((an3 sts a b tm).length:Int)<=2*((la+1) / 60-be / 60)+lmX (an3 sts a b tm):=by
 have l1:=axZ sts
 obtain⟨n1,n2⟩:=aAK sts a b tm
 rw[aCK]
 by_cases c:tm=[109,105,110,117,116,101]
 ·rw[if_pos c]
  rcases (show lmX sts=0∨lmX sts=1 by omega) with z | z
  ·omega
  ·have:=n2 c z
   omega
 ·rw[if_neg c]
  have:=h2 c
  omega
theorem afP{α β:Type}{F:α->β->Prop}:∀{l:List α} {r:List β},Paired F l r->l.length=r.length
 |_,_,.nil=>rfl
 |_,_,.cons _ t=>congrArg (·+1) (afP t)
theorem aBL{m0 m1 m3 d r y m k:Int}{kd kw:Option (List Mk)}(h:shK m0 m1 m3 kd kw d r y m k≠ .non):∃tw,shK m0 m1 m3 kd kw d r y m k=.str (Tx tw)/\(tw≠[109,105,110,117,116,101]->tw≠[104,111,117,114]->tb m3 m.toNat=true->tb (aaY kd kw (aaD y m) ((d-k+1+6)%7)) k.toNat=false):=by
 by_cases c1:tb m3 m.toNat=false
 ·exact⟨_,sh1 c1,fun _ _ z=>by rw[c1] at z;cases z⟩
 have c1:=ah9 c1
 by_cases c2:tb (aaY kd kw (aaD y m) ((d-k+1+6)%7)) k.toNat=false
 ·exact⟨_,sh2 c1 c2,fun _ _ _=>c2⟩
 have c2:=ah9 c2
 by_cases c3:tb m1 (r / 60).toNat=false
 ·exact⟨_,sh3 c1 c2 c3,fun _ z=>absurd rfl z⟩
 have c3:=ah9 c3
 by_cases c4:tb m0 (r%60).toNat=false
 ·exact⟨_,sh4 c1 c2 c3 c4,fun z=>absurd rfl z⟩
 exact absurd (sh5 c1 c2 c3 (ah9 c4)) h
noncomputable def SameN(H H':Hp):Prop:=∀b o,(∀ps,o≠ .tbl ps)->H b=some o->H' b=some o
theorem abP{H H':Hp}(s:Same H H'):SameN H H':=fun b o _ h=>s b o h
theorem SameN.trans{H H1 H2:Hp}(a:SameN H H1)(b:SameN H1 H2):SameN H H2:=fun c o n h=>b c o n (a c o n h)
theorem arF{c:Cs}{H H':Hp}(s:SameN H H'){v:V}:∀{ko:Option (List Mk)},DV c H v ko->DV c H' v ko
 |none,h=>h
 |some _,⟨p,qs,e,h1,h2,h3⟩=>⟨p,qs,e,s _ _ (fun _ z=>by cases z) h1,Paired.imp' (fun x k z=>by cases k<;>(obtain⟨dx,z⟩:=z;exact⟨dx,s _ _ (fun _ z=>by cases z) z⟩)) h2,h3⟩
noncomputable def RowR(c:Cs)(CR:Addr)(H:Hp)(p:Addr)(m0 m1 m3:Int)(kd kw:Option (List Mk)):Prop:=∃(dx:Addr) (dv wv:V),H p=some (.ins CR dx (abZ m0 m1 dv m3 wv (tmF m1 m0)))/\(0<=m0/\0<=m1/\0<=m3)/\(m1<2^24/\m0<2^60)/\DV c H dv kd/\DV c H wv kw
theorem RowR.keepN{c:Cs}{CR:Addr}{H H':Hp}{p:Addr}{m0 m1 m3:Int}{kd kw:Option (List Mk)}(s:SameN H H')(h:RowR c CR H p m0 m1 m3 kd kw):RowR c CR H' p m0 m1 m3 kd kw:=by
 obtain⟨dx,dv,wv,hp,hn,hb,hd,hw⟩:=h
 exact⟨dx,dv,wv,s _ _ (fun _ z=>by cases z) hp,hn,hb,arF s hd,arF s hw⟩
theorem RowR.ok{c:Cs}{CR:Addr}{H:Hp}{p:Addr}{m0 m1 m3:Int}{kd kw:Option (List Mk)}(h:RowR c CR H p m0 m1 m3 kd kw):GOk (aaP (tmF m1 m0) m3 kd kw):=by
 obtain⟨dx,dv,wv,hp,hn,hb,hd,hw⟩:=h
 exact aE7 hn.2.1 hb.1 hn.1 hb.2
noncomputable def aoO(P:Program)(w:World)(K:FG)(mg:Str->Option Value)(base:Heap)(n:Nat)(H:Hp)(f:Addr)(g:Int->Nat->Int):Prop:=
 FnHO H f/\∀(H1:Hp) (kd:Int) (Q:VK),Same H H1->0<=kd->kd<=90->(∀D H2,Same H1 H2->H2 D=some (.lst ((acF g kd).map V.int))->Q (.ref D) H2)->Calls P w K mg base n f [.int kd] H1 Q
theorem axB{H H1:Hp}{f:Addr}(s:Same H H1)(h:FnHO H f):FnHO H1 f:=by
 obtain⟨oc,od,fd,sl,e⟩:=h
 exact⟨oc,od,fd,sl,s _ _ e⟩
noncomputable def axE(g:Int->Nat->Int)(kvs:List (Key×V)):Prop:=∀(k:Int) (v:V),acJ kvs (.inl k)=some v->v=.int (wK g k)
theorem aFO{g:Int->Nat->Int}{kvs:List (Key×V)}(h:axE g kvs)(k:Int):axE g (afU kvs (.inl k) (.int (wK g k))):=fun j v e=>by
 rw[arI] at e
 by_cases c:(Sum.inl j:Key)=.inl k
 ·rw[if_pos c] at e
  cases c
  exact (a8 e).symm
 ·rw[if_neg c] at e
  exact h j v e
theorem aD8(x:Int):(if 0>x then 0 else x)=max x 0:=by split<;>omega
theorem aGL(x c:Int):(if c<x then c else x)=min x c:=by split<;>omega
theorem aI1(g:Int->Nat->Int){k:Int}(h0:0<=k)(h1:k<=90):(acF g k).length<=31:=by
 rw[atD]
 have:=(adH h0 h1).2.1
 omega
theorem aCN{m:Int}(h:0<m):∃l:Nat,(Builtin.Int.intBits m:Int)=l+1/\tb m l=true/\∀j,l<j->tb m j=false:=by
 have h1:=avE (bR h)
 obtain⟨n,hn⟩:∃n,n=Builtin.Int.intBits m:=⟨_,rfl⟩
 rw[←hn] at h1 ⊢
 cases n with
 |zero=>exfalso;have:(2:Int)^0=1:=rfl;omega
 |succ l=>
  refine⟨l,by omega,?_,fun j hj=>acV h1 hj⟩
  cases e:tb m l with
  |true=>rfl
  |false=>
   exfalso
   have lt:m<2^l:=ay6 (bR h) fun i hi=>by
    rcases Nat.lt_trichotomy i l with c | c | c
    ·exact c
    ·rw[c,e] at hi;cases hi
    ·rw[acV h1 c] at hi;cases hi
   have:=ajR (bR h) lt
   omega
noncomputable def aHI(x:Str):Str:=x++".<locals>."++"<lambda>"
noncomputable def aiM(H:Hp)(Pt:Addr)(lp:Pos)(q:Str):Prop:=H Pt=some (.tbl #[])∨∃c0,H Pt=some (.tbl #[rawInt lp.line,rawInt lp.col,.ref c0])/\H c0=some (alX c0 q)
theorem axN(lp:Pos)(c0:Addr):codeAmong lp [rawInt lp.line,rawInt lp.col,.ref c0]=some (.ref c0):=by simp[codeAmong,rawInt]
theorem agC{H H':Hp}{Pt:Addr}{lp:Pos}{q:Str}(s:Same H H')(h:aiM H Pt lp q):aiM H' Pt lp q:=by
 rcases h with h | ⟨c0,h,hc⟩
 ·exact .inl (s _ _ h)
 ·exact .inr ⟨c0,s _ _ h,s _ _ hc⟩
theorem ac3{HL H':Hp}{a:Addr}{x:HO}(ha:HL a=none)(s':Same (upd HL a x) H'):Same HL (era H' a):=fun b o hb=>by
 have nb:b≠a:=fun z=>by rw[z,ha] at hb;cases hb
 rw[aaR nb]
 exact s' _ _ (by rw[aaF nb];exact hb)
noncomputable def asT(H:Hp)(l:Addr):Prop:=∀o,(∀ps,o≠ .tbl ps)->H l≠some o
theorem agU{H H':Hp}{l:Addr}(s:SameN H H')(h:H' l=none):asT H l:=fun o n e=>by
 rw[s _ _ n e] at h
 cases h
noncomputable def aJL(H HL:Hp)(f:Addr)(qual:Str)(params:Arguments)(body:Expr)(scope:Scope)(a:Addr)(pm:Value)(tN tL:Addr)(pN pL:Pos)(qN qL:Str):Prop:=
 H f=none/\SameN H HL/\(∃c' ctv,HL f=some (ab4 f (auF qual params body scope "row" a pm c' ctv))/\HL c'=some (alX c' qual))/\aiM HL tN pN qN/\aiM HL tL pL qL
theorem ag2{H H':Hp}{bm:Addr}(s:SameN H H')(h:awZ H bm):awZ H' bm:=by
 obtain⟨ob,u,e,r⟩:=h
 exact⟨ob,u,s _ _ (fun _ z=>by cases z) e,r⟩
theorem arL{H:Hp}{qual:Str}{params:Arguments}{body:Expr}{scope:Scope}{a tN tL bm:Addr}{pm:Value}{pN pL:Pos}{qL:Str}{Q:VK}(h1:aiM H tN pN qual)(h2:aiM H tL pL qL)(ne:tN≠tL)(hbm:awZ H bm)(h:∀f HL,aJL H HL f qual params body scope a pm tN tL pN pL qual qL->Q (.ref f) HL){σ:L2.St}:aN6 tN bm pN qual params body scope "row" a pm σ H Q:=by
 have oth:∀{b:Addr} {o:HO},H b=some o->(∀ps,o≠ .tbl ps)->b≠tN:=fun hb n z=>by
  rcases h1 with e | ⟨c0,e,_⟩<;>(rw[z,e] at hb;exact n _ (a8 hb).symm)
 rcases h1 with e | ⟨c0,e,hc⟩
 ·refine⟨hbm,#[],e,True.intro,.inl ⟨rfl,fun f c' ctv hf hc' hcf=>h f _ ⟨hf,fun b o n hb=>?_,⟨c',ctv,aaA,?_⟩,?_,?_⟩⟩⟩
  ·rw[aaF (fun z=>by rw[z,hf] at hb;cases hb),aaF (fun z=>by rw[z,hc'] at hb;cases hb),aaF (oth hb n)]
   exact hb
  ·rw[aaF hcf,aaA]
  ·refine .inr ⟨c',?_,by rw[aaF hcf,aaA]⟩
   rw[aaF (fun z=>by rw[z,hf] at e;cases e),aaF (fun z=>by rw[z,hc'] at e;cases e),aaA]
   rfl
  ·have k:∀{b:Addr} {o:HO},b≠tN->H b=some o->upd (upd (upd H tN (.tbl (#[]++ #[rawInt pN.line,rawInt pN.col,.ref c']))) c' (alX c' qual)) f (ab4 f (auF qual params body scope "row" a pm c' ctv)) b=some o:=fun {b o} nb hb=>by
    rw[aaF (fun z=>by rw[z,hf] at hb;cases hb),aaF (fun z=>by rw[z,hc'] at hb;cases hb),aaF nb]
    exact hb
   rcases h2 with e2 | ⟨c2,e2,h2⟩
   ·exact .inl (k ne.symm e2)
   ·exact .inr ⟨c2,k ne.symm e2,k (oth h2 fun ps z=>by cases z) h2⟩
 ·refine⟨hbm,_,e,(by simp[TriplesOk,rawInt]),.inr ⟨c0,axN pN c0,hc,fun f ctv hf=>h f _ ⟨hf,abP (aaB hf _),⟨c0,ctv,aaA,aaB hf _ _ _ hc⟩,agC (aaB hf _) (.inr ⟨c0,e,hc⟩),agC (aaB hf _) h2⟩⟩⟩
noncomputable def aiS(H:Hp)(tN tL bm:Addr):Prop:=aiM H tN ⟨184,21,184,51⟩ (aHI "next_from")/\aiM H tL ⟨189,21,189,51⟩ (aHI "last_to")/\tN≠tL/\awZ H bm
theorem acG{H H':Hp}{tN tL bm:Addr}(s:Same H H')(h:aiS H tN tL bm):aiS H' tN tL bm:=⟨agC s h.1,agC s h.2.1,h.2.2.1,ag2 (abP s) h.2.2.2⟩
theorem aCG:∀n:Nat,n<100->∀c∈num n,c<128:=by decide +kernel
theorem abY{ds ss:List Int}:∀{i:Nat} {z:Int},Digs ds ss->ss[i]? =some z->∃d,ds[i]? =some d/\0<=d/\d<z:=by
 induction ds generalizing ss with
 |nil=>intro i z h e;cases h;cases e
 |cons d ds ih=>
  intro i z h e
  cases h with
  |cons r t=>
   cases i with
   |zero=>cases e;exact⟨d,rfl,r⟩
   |succ i=>exact ih t e
theorem acQ{ds:List Int}{i:Nat}{d:Int}(e:ds[i]? =some d):atI (ds.map V.int) (i:Int)=some (.int d):=aeR (by rw[bA,e];rfl)
theorem ag3{z:Int}(h0:0<=z)(h1:z<=99):z.toNat<10^500/\[V.int z]=[V.int (z.toNat:Nat)]/\(num z.toNat).length<=2/\Asc (num z.toNat):=⟨a9 (show z.toNat<100 by omega) (by decide +kernel),by rw[bU h0],(akL _ (by omega)).2.2.2,aCG _ (by omega)⟩
noncomputable def OkM(b:Bool)(k:Mk):Prop:=k.sp=true/\k.wk=b/\k.ok
theorem amY{α β:Type}{F:α->β->Prop}:∀{l:List α} {r:List β},Paired F l r->∀{i:Nat} {a:α},l[i]? =some a->∃b,r[i]? =some b/\F a b
 |_,_,.nil,_,_,h=>nomatch h
 |_,_,.cons r _,0,_,h=>by cases h;exact⟨_,rfl,r⟩
 |_,_,.cons _ t,i+1,_,h=>amY t h
theorem av9{K:FG}{H H':Hp}{a:Addr}{xs:List V}(e:SameN H H')(h:SqL K H a xs):SqL K H' a xs:=by
 rcases h with (h | ⟨o,h⟩) | h
 ·exact .inl (.inl (e _ _ (fun _ z=>by cases z) h))
 ·exact .inl (.inr ⟨o,e _ _ (fun _ z=>by cases z) h⟩)
 ·exact .inr h
theorem awN:∀m∈aqB,∀l∈ls4,∀f∈fs7,wkD m l f<2^(l.toNat+1):=by decide +kernel
theorem amX:∀l∈ls4,∀f∈fs7,∀d∈ab8,d<=l->nw d l f<=l:=by decide +kernel
theorem ac0{a n:Nat}(h:a<n):(1:Int)*2^a<2^n:=by
 have e:(2:Int)^n=2^a*2^(n-a):=by rw[←Int.pow_add,show a+(n-a)=n by omega]
 have p:=aaM a
 have q:(2:Int)<=2^(n-a):=by
  obtain⟨k,hk⟩:∃k,n-a=k+1:=⟨n-a-1,by omega⟩
  rw[hk,Int.pow_succ]
  have:=aaM k
  omega
 rw[e,Int.one_mul]
 have:(2:Int)^a*1<2^a*2^(n-a):=Int.mul_lt_mul_of_pos_left (by omega) p
 omega
theorem aFD{k:Mk}{l f:Int}(hk:k.ok)(h:Lf l f):k.due l f<2^(l.toNat+1):=by
 have hl:=h.1
 have p:=aaM (l.toNat+1)
 cases k with
 |num m=>
  show akQ m l<_
  rw[(as5 hk h.1).1]
  have e:=avY (n:=l.toNat+1) 0 (as5 hk h.1).2.2.1 (fun d hd=>by have:=(ao4 m l.toNat).2.2 d hd;omega) (by omega)
  have e1:(2:Int)^0=1:=rfl
  omega
 |lst b=>
  show (if l<=b then (0:Int) else 1*2^(l-b).toNat)<_
  have hb:=hk.1
  split
  ·exact p
  ·exact ac0 (by omega)
 |nea d=>
  show (if l<d then (0:Int) else 1*2^(nw d l f).toNat)<_
  split
  ·exact p
  ·have:=amX l (aeZ hl.1 hl.2) f (afQ h.2.1 h.2.2) d (alR hk.1 hk.2) (by omega)
   exact ac0 (by omega)
 |wrk=>
  have:=amX l (aeZ hl.1 hl.2) f (afQ h.2.1 h.2.2) l (alR (by omega) hl.2) (aZ _)
  exact ac0 (by omega)
 |wkd m=>exact awN m (aCD hk.1 hk.2) l (aeZ hl.1 hl.2) f (afQ h.2.1 h.2.2)
 |nth w m=>
  show (if l<acA w m f then (0:Int) else 1*2^(acA w m f).toNat)<_
  split
  ·exact p
  ·exact ac0 (by omega)
 |one w=>
  have:adD w l f<=l:=by
   unfold adD
   have:=cN ((f+l-1)%7-w) (show (7:Int)≠0 by decide)
   omega
  exact ac0 (by omega)
 |nil=>exact p
theorem aAH{ko:Option (List Mk)}{a l f:Int}(h:Lf l f)(o:∀ks,ko=some ks->∀k∈ks,k.ok)(ha:0<=a)(ha2:a<2^(l.toNat+1)):orO ko a l f<2^(l.toNat+1):=by
 cases ko with
 |none=>exact ha2
 |some ks=>exact aK2 ha (asO h (o ks rfl)) ha2 (auH fun m hm=>by
   obtain⟨k,hk,rfl⟩:=bL.mp hm
   exact⟨apR (o ks rfl k hk) h,aFD (o ks rfl k hk) h⟩)
theorem arJ{kd kw:Option (List Mk)}{l f:Int}(h:Lf l f)(od:∀ks,kd=some ks->∀k∈ks,k.ok)(ow:∀ks,kw=some ks->∀k∈ks,k.ok):aaY kd kw l f<2^(l.toNat+1):=by
 have p:=aaM (l.toNat+1)
 unfold aaY
 split
 ·rw[Int.pow_succ]
  omega
 ·exact aAH h ow (afR (b:=false) h od (aZ 0)) (aAH h od (aZ 0) p)
theorem aqT:∀l∈ls4,∀d∈ab8,d<=l->tb (2*2^l.toNat-2) d.toNat=true:=by decide +kernel
theorem aAI:∀l∈ls4,∀b∈0::ab8,∀d∈ab8,d<=l->tb (apG b l) d.toNat=decide (d=l-b):=by decide +kernel
theorem azM:∀l∈ls4,∀f∈fs7,∀x∈ab8,∀d∈ab8,d<=l->tb (apS x l f) d.toNat=(decide (x<=l)&&decide (d=nw x l f)):=by decide +kernel
theorem ayZ:∀l∈ls4,∀f∈fs7,∀w∈fs7,∀m∈ms5,∀d∈ab8,d<=l->tb (al8 w m l f) d.toNat=(decide ((f+d-1)%7=w)&&decide ((d-1) / 7=m-1)):=by decide +kernel
noncomputable def okW(l f x:Int):Bool:=decide (1<=x)&&decide (x<=l)&&(decide (1<=(f+x-1)%7)&&decide ((f+x-1)%7<=5))
noncomputable def ak4(l f:Int):List Int->Int
 |[]=>0
 |x::r=>if okW l f x=true then x else ak4 l f r
theorem ayN:∀l∈ls4,∀f∈fs7,∀d∈ab8,d<=l->ak4 l f [d-0,d+0,d-1,d+1,d-2,d+2]=nw d l f:=by decide +kernel
noncomputable def Dl(d l:Int):Prop:=1<=d/\d<=l
theorem aCO{m l f d:Int}(h:0<=m)(hl:Lf l f)(hd:Dl d l):tb (Mk.due (.num m) l f) d.toNat=tb m d.toNat:=by
 show tb (Builtin.bitAnd m (2*2^l.toNat-2)) d.toNat=_
 have h1:=hl.1
 have h2:=hd.1
 have h3:=hd.2
 rw[acL h (by have:=aaM l.toNat;omega),aqT l (aeZ h1.1 h1.2) d (alR h2 (by omega)) h3,Bool.and_true]
theorem aBA{b l f d:Int}(h:0<=b/\b<=30)(hl:Lf l f)(hd:Dl d l):tb (Mk.due (.lst b) l f) d.toNat=decide (d=l-b):=
 aAI l (aeZ hl.1.1 hl.1.2) b (in_b h.1 h.2) d (alR hd.1 (c6 hd.2 hl.1.2)) hd.2
theorem aBI{x l f d:Int}(h:1<=x/\x<=31)(hl:Lf l f)(hd:Dl d l):tb (Mk.due (.nea x) l f) d.toNat=(decide (x<=l)&&decide (d=nw x l f)):=
 azM l (aeZ hl.1.1 hl.1.2) f (afQ hl.2.1 hl.2.2) x (alR h.1 h.2) d (alR hd.1 (c6 hd.2 hl.1.2)) hd.2
theorem aB7{w m l f d:Int}(hw:0<=w/\w<=6)(hm:1<=m/\m<=5)(hl:Lf l f)(hd:Dl d l):tb (Mk.due (.nth w m) l f) d.toNat=(decide ((f+d-1)%7=w)&&decide ((d-1) / 7=m-1)):=
 ayZ l (aeZ hl.1.1 hl.1.2) f (afQ hl.2.1 hl.2.2) w (afQ hw.1 hw.2) m (aLQ hm.1 hm.2) d (alR hd.1 (c6 hd.2 hl.1.2)) hd.2
theorem ayJ{d l f:Int}(hl:Lf l f)(hd:Dl d l):ak4 l f [d-0,d+0,d-1,d+1,d-2,d+2]=nw d l f:=ayN l (aeZ hl.1.1 hl.1.2) f (afQ hl.2.1 hl.2.2) d (alR hd.1 (c6 hd.2 hl.1.2)) hd.2
noncomputable def MkD(H:Hp)(v:V)(k:Mk):Prop:=∃(u:Addr) (x y:V) (tw:List Nat),v=.ref u/\H u=some (.tup [.str (Tx tw),x,y])/\match k with
 |.num m=>tw=[110,117,109]/\∃(a:Addr) (ns:List Int),x=.ref a/\H a=some (.lst (ns.map V.int))/\m=aaO ns/\∀n∈ns,1<=n/\n<=31
 |.lst b=>tw=[108,97,115,116]/\x=.int b
 |.nea d=>tw=[110,101,97,114]/\x=.int d
 |.nth w m=>tw=[110,116,104]/\x=.int w/\y=.int m
 |_=>False
theorem MkD.keep{H H':Hp}(s:Same H H'){v:V}{k:Mk}(h:MkD H v k):MkD H' v k:=by
 obtain⟨u,x,y,tw,e,hu,h⟩:=h
 refine⟨u,x,y,tw,e,s _ _ hu,?_⟩
 cases k with
 |num m=>obtain⟨e,a,ns,e2,ha,r⟩:=h;exact⟨e,a,ns,e2,s _ _ ha,r⟩
 |lst b=>exact h
 |nea d=>exact h
 |nth w m=>exact h
 |_=>exact h
noncomputable def MV(H:Hp)(v:V)(ko:Option (List Mk)):Prop:=(ko=none/\v=.non)∨∃(a:Addr) (us:List V) (ks:List Mk),ko=some ks/\v=.ref a/\H a=some (.lst us)/\Paired (MkD H) us ks/\∀k∈ks,k.ok
theorem MV.keep{H H':Hp}(s:Same H H'){v:V}{ko:Option (List Mk)}(h:MV H v ko):MV H' v ko:=by
 rcases h with h | ⟨a,us,ks,e,e2,ha,hP,ok⟩
 ·exact .inl h
 ·exact .inr ⟨a,us,ks,e,e2,s _ _ ha,Paired.mapP hP (fun _ _ z=>z.keep s),ok⟩
theorem aEH{ks:List Mk}{l f:Int}(hl:Lf l f)(o:∀k∈ks,k.ok)(i:Nat):tb (orK ks l f) i=ks.any (fun k=>tb (k.due l f) i):=by
 unfold orK
 rw[ab1 (fun z hz=>by
  obtain⟨k,hk,rfl⟩:=bL.mp hz
  exact apR (o k hk) hl),List.any_map]
 rfl
theorem aeV(a b:Int):decide (V.int a=V.int b)=decide (a=b):=decide_eq_decide.mpr int_eq
theorem aq4{α:Type}{p q:α->Bool}:∀{l:List α},(∀x∈l,p x=q x)->l.any p=l.any q
 |[],_=>rfl
 |x::r,h=>by rw[bN,bN,h x bP,aq4 fun y hy=>h y (bM _ hy)]
noncomputable def nvr(m3:Int)(kd kw:Option (List Mk)):Bool:=((List.range 91).map fun k:Nat=>decide (dIn m3 kd kw (k:Int)=0)).all id
noncomputable def orP(ko:Option (List Mk))(l f:Int)(i:Nat):Bool:=match ko with
 |none=>false
 |some ks=>ks.any fun k=>tb (k.due l f) i
theorem aoP{ko:Option (List Mk)}{a l f:Int}(hl:Lf l f)(o:∀ks,ko=some ks->∀k∈ks,k.ok)(ha:0<=a)(i:Nat):tb (orO ko a l f) i=(tb a i||orP ko l f i):=by
 cases ko with
 |none=>show tb a i=(tb a i||false);rw[Bool.or_false]
 |some ks=>
  show tb (Builtin.bitOr a (orK ks l f)) i=_
  rw[amJ ha (asO hl (o ks rfl)),aEH hl (o ks rfl)]
  rfl
theorem azG{kd kw:Option (List Mk)}{d l f:Int}(hl:Lf l f)(hd:Dl d l)(od:∀ks,kd=some ks->∀k∈ks,k.ok)(ow:∀ks,kw=some ks->∀k∈ks,k.ok):tb (aaY kd kw l f) d.toNat=((kd.isNone&&kw.isNone)||(orP kd l f d.toNat||orP kw l f d.toNat)):=by
 unfold aaY
 split
 ·rename_i c
  rw[aqT l (aeZ hl.1.1 hl.1.2) d (alR hd.1 (c6 hd.2 hl.1.2)) hd.2,c.1,c.2]
  rfl
 ·rename_i c
  have e:(kd.isNone&&kw.isNone)=false:=by
   cases h1:kd.isNone
   ·rfl
   ·cases h2:kw.isNone
    ·rfl
    ·exact absurd ⟨h1,h2⟩ c
  rw[e,c8,aoP hl ow (afR (b:=false) hl od (aZ 0)),aoP hl od (aZ 0),aaT,c8]
theorem MV.ok{H:Hp}{v:V}{ko:Option (List Mk)}(h:MV H v ko):∀ks,ko=some ks->∀k∈ks,k.ok:=fun ks e=>by
 rcases h with ⟨z,_⟩ | ⟨_,_,ks',e',_,_,_,o⟩
 ·rw[z] at e;cases e
 ·rw[e'] at e;cases e;exact o
theorem az4{zs:List Int}{i lo hi:Int}(h0:0<=i)(h1:i<zs.length)(h:∀z∈zs,lo<=z/\z<=hi):∃z,atI (zs.map V.int) i=some (V.int z)/\lo<=z/\z<=hi:=by
 have hk:i.toNat<zs.length:=by omega
 have e:i=((i.toNat:Nat):Int):=by omega
 rw[e]
 exact⟨zs[i.toNat],aeR (by rw[bA,bS hk];rfl),h _ (List.getElem_mem hk)⟩
theorem aD5{xs:List V}{i:Int}(h0:0<=i)(h1:i<xs.length):∃v,atI xs i=some v/\v∈xs:=by
 have hk:i.toNat<xs.length:=by omega
 have e:i=((i.toNat:Nat):Int):=by omega
 rw[e]
 exact⟨xs[i.toNat],aeR (bS hk),List.getElem_mem hk⟩
theorem an4{b:Bool}{ws:List (List Nat)}{ks:List Mk}(h:Ws b ws ks)(hne:ws≠[])(hn:ws.length<=20)(ho:∀k∈ks,k.sp=true/\k.wk=b/\k.ok)(n:aaW 44 ws≠[42]):DT b (aaW 44 ws) (some ks):=by
 have w:=aDP h hne hn
 exact⟨⟨ahI (by decide) fun x hx=>(h.cl x hx).1.2,auW hne (fun x hx=>(h.cl x hx).2.1) 44⟩,w.2,n,ho,ax6 h w.1⟩
noncomputable def aB9:List Nat:=[28,29,30,31]
theorem anS{o:Int}(h:28<=o/\o<=31):o.toNat∈aB9:=by
 have:o.toNat=28∨o.toNat=29∨o.toNat=30∨o.toNat=31:=by omega
 rcases this with e | e | e | e<;>(rw[e];decide)
theorem aGN:∀o∈aB9,num o≠[42]:=by decide +kernel
theorem aIO:∀o∈aB9,∀p∈aB9,aaW 44 [num o,num p++[87]]≠[42]/\aaW 44 [num o,num p++[87]]=num o++[44]++num p++[87]:=by decide +kernel
theorem akA{o:Int}(h:28<=o/\o<=31):(Cl (num o.toNat)/\SpT false (num o.toNat) (.num (aaO [o])))/\OkM false (.num (aaO [o])):=by
 have it:=i1 (lo:=1) (hi:=31) (a:=o) (by decide) (by omega) (by omega) (by decide)
 have hp:=aw5 (ns:=[o]) (c5 _ _) (fun n hn=>by rw[bE.mp hn];omega)
 exact⟨⟨it.2.1,rfl,it.1,hp⟩,rfl,rfl,bR hp⟩
theorem agE{o:Int}(h:28<=o/\o<=31):(Cl (num o.toNat++[87])/\SpT false (num o.toNat++[87]) (.nea o))/\OkM false (.nea o):=by
 have z:=aFJ o.toNat (by omega) (by omega)
 rw[bU (by omega)] at z
 exact⟨⟨z.2,z.1⟩,rfl,rfl,by omega,by omega⟩
theorem avL{o:Int}(h:28<=o/\o<=31):(Cl ([76,45]++num (o-1).toNat)/\SpT false ([76,45]++num (o-1).toNat) (.lst (o-1)))/\OkM false (.lst (o-1)):=by
 have z:=aEM (o-1).toNat (by omega) (by omega)
 rw[bU (by omega)] at z
 exact⟨⟨z.2,z.1⟩,rfl,rfl,by omega,by omega⟩
theorem as9{t:List Nat}{k:Mk}(h:(Cl t/\SpT false t k)/\OkM false k)(n:t≠[42]):DT false t (some [k]):=
 an4 (ws:=[t]) (ks:=[k]) (.cons h.1 .nil) (c5 _ _) (by show 1<=20;decide) (fun k' hk=>by rw[bE.mp hk];exact h.2) n
theorem rr0{o:Int}(h:28<=o/\o<=31):DT false (num o.toNat) (some [.num (aaO [o])]):=as9 (akA h) (aGN _ (anS h))
theorem rr1{o:Int}(h:28<=o/\o<=31):DT false ([76,45]++num (o-1).toNat) (some [.lst (o-1)]):=as9 (avL h) (fun z=>by cases z)
theorem rr2{o:Int}(h:28<=o/\o<=31):DT false (num o.toNat++[87]) (some [.nea o]):=as9 (agE h) (fun z=>by
 have:=congrArg (fun l:List Nat=>l.getLast?) z
 rw[List.getLast?_append] at this
 cases this)
theorem rr3{o p:Int}(h:28<=o/\o<=31)(h':28<=p/\p<=31):DT false (num o.toNat++[44]++num p.toNat++[87]) (some [.num (aaO [o]),.nea p]):=by
 have z:=aIO _ (anS h) _ (anS h')
 rw[←z.2]
 exact an4 (ws:=[num o.toNat,num p.toNat++[87]]) (.cons (akA h).1 (.cons (agE h').1 .nil)) (c5 _ _) (by show 2<=20;decide) (fun k hk=>by
  rcases aY.mp hk with rfl | hk
  ·exact (akA h).2
  ·rw[bE.mp hk];exact (agE h').2) z.1
noncomputable def RrOk(H:Hp)(v:V):Prop:=∃(t:Addr) (tw:List Nat) (v':V) (ko:Option (List Mk)),v=.ref t/\H t=some (.tup [.str (Tx tw),v'])/\DT false tw ko/\MV H v' ko
theorem RrOk.keep{H H':Hp}(s:Same H H'){v:V}(h:RrOk H v):RrOk H' v:=by
 obtain⟨t,tw,v',ko,e,ht,hd,hm⟩:=h
 exact⟨t,tw,v',ko,e,s _ _ ht,hd,hm.keep s⟩
theorem apT{H:Hp}{a:Addr}{o:HO}:era (upd H a o) a=era H a:=funext fun b=>by
 by_cases c:b=a
 ·subst c;rw[abU,abU]
 ·rw[aaR c,aaR c,aaF c]
theorem at3{H H':Hp}{a:Addr}(s:Same H H'):Same (era H a) (era H' a):=fun b o e=>by
 obtain⟨n,e⟩:=aoQ e
 rw[aaR n]
 exact s _ _ e
theorem aBO{H:Hp}{a:Addr}:Same (era H a) H:=fun _ _ e=>(aoQ e).2
noncomputable def au2(st o la:Int)(H:Hp)(n:Nat)(σ:L2.St)(H':Hp):Prop:=∃(M:Addr) (xs:List V),σ=[some (.int st),some (.int o),some (.int la),some (.ref M)]/\H M=none/\Same H H'/\H' M=some (.lst xs)/\xs.length=n/\∀v∈xs,RrOk (era H' M) v
noncomputable def ends(m:Int):List Int:=if m=2 then [28,29] else [[31,28,31,30,31,30,31,31,30,31,30,31].getD (m-1).toNat 0]
noncomputable def Nvl(ns:List Int)(kd kw:Option (List Mk)):Prop:=∀m∈ns,∀l∈ends m,∀f:Nat,f<7->∀d:Nat,d<l.toNat->tb (aaY kd kw l f) (d+1)=false
theorem aCU:∀n:Nat,n<12->∀l∈ends ((n:Int)+1),l∈ls4:=by decide +kernel
theorem aA1{m l:Int}(h1:1<=m)(h2:m<=12)(hl:l∈ends m):28<=l/\l<=31:=by
 have z:=aCU (m-1).toNat (by omega) l (by rw[show (((m-1).toNat:Nat):Int)+1=m by omega];exact hl)
 simp only[ls4,aY,cA,or_false] at z
 omega
theorem awH:∀k:Nat,k<91->lnA (k:Int)∈ends (mnA (k:Int)):=by decide +kernel
noncomputable def aw8(m l f:Int):Int:=if m=2/\l=29 then 84+f else 7*(m-1)+f
theorem awQ:∀n:Nat,n<12->∀l∈ends ((n:Int)+1),∀f:Nat,f<7->(0<=aw8 ((n:Int)+1) l f/\aw8 ((n:Int)+1) l f<=90)/\mnA (aw8 ((n:Int)+1) l f)=(n:Int)+1/\lnA (aw8 ((n:Int)+1) l f)=l/\aw8 ((n:Int)+1) l f%7=f:=by decide +kernel
theorem azP:∀l∈ls4,tb (2*2^l.toNat-2) 0=false:=by decide +kernel
theorem aL0{k:Mk}{l f:Int}(hk:k.ok)(h:Lf l f)(hs:∀m,k≠ .wkd m):tb (k.due l f) 0=false:=by
 have hl:=h.1
 have pw:∀{a:Nat},0<a->tb (1*2^a) 0=false:=fun {a} ha=>by
  obtain⟨b,rfl⟩:∃b,a=b+1:=⟨a-1,by omega⟩
  have e:=anT (m:=1) (by decide) (b+1) 0
  rw[e,eF (by omega),cW]
 cases k with
 |num m=>
  show tb (Builtin.bitAnd m (2*2^l.toNat-2)) 0=false
  rw[acL hk (by have:=aaM l.toNat;omega),azP l (aeZ hl.1 hl.2),cS]
 |lst b=>
  show tb (if l<=b then (0:Int) else 1*2^(l-b).toNat) 0=false
  split
  ·exact aaT _
  ·exact pw (by omega)
 |nea d=>
  show tb (if l<d then (0:Int) else 1*2^(nw d l f).toNat) 0=false
  split
  ·exact aaT _
  ·exact pw (by have:=(ajO ⟨hk,hl,h.2⟩ (by omega)).2.1;omega)
 |wrk=>exact pw (by have:=(ajO h.last (aZ _)).2.1;omega)
 |wkd m=>exact absurd rfl (hs m)
 |nth w m=>
  show tb (if l<acA w m f then (0:Int) else 1*2^(acA w m f).toNat) 0=false
  split
  ·exact aaT _
  ·refine pw ?_
   have:=hk.2.1
   unfold acA
   have:=cN (w-f) (show (7:Int)≠0 by decide)
   omega
 |one w=>
  refine pw ?_
  unfold adD
  have:=c7 ((f+l-1)%7-w) (show (0:Int)<7 by decide)
  omega
 |nil=>exact aaT _
noncomputable def aqF(ko:Option (List Mk)):Prop:=∀ks,ko=some ks->∀k∈ks,∀m,k≠ .wkd m
theorem adC{α β:Type}{F:α->β->Prop}:∀{l:List α} {r:List β},Paired F l r->∀b∈r,∃a,F a b
 |_,_,.nil,_,h=>nomatch h
 |_,_,.cons z t,b,h=>by
  rcases aY.mp h with rfl | h
  ·exact⟨_,z⟩
  ·exact adC t b h
theorem MV.nw{H:Hp}{v:V}{ko:Option (List Mk)}(h:MV H v ko):aqF ko:=fun ks e k hk m z=>by
 rcases h with ⟨w,_⟩ | ⟨a,us,ks',e',_,_,hP,_⟩
 ·rw[w] at e;cases e
 ·rw[e'] at e
  cases e
  obtain⟨x,hx⟩:=adC hP k hk
  rw[z] at hx
  obtain⟨_,_,_,_,_,_,hf⟩:=hx
  exact hf
theorem auQ{kd kw:Option (List Mk)}{l f:Int}(hl:Lf l f)(od:∀ks,kd=some ks->∀k∈ks,k.ok)(ow:∀ks,kw=some ks->∀k∈ks,k.ok)(nd:aqF kd)(nwk:aqF kw):tb (aaY kd kw l f) 0=false:=by
 have no:∀{ko:Option (List Mk)},(∀ks,ko=some ks->∀k∈ks,k.ok)->aqF ko->orP ko l f 0=false:=fun {ko} o n=>by
  cases ko with
  |none=>rfl
  |some ks=>exact cX.mpr fun k hk=>by rw[aL0 (o ks rfl k hk) hl (n ks rfl k hk)];decide
 unfold aaY
 split
 ·exact azP l (aeZ hl.1.1 hl.1.2)
 ·rw[aoP hl ow (afR (b:=false) hl od (aZ 0)),aoP hl od (aZ 0),aaT,no od nd,no ow nwk]
  rfl
theorem ajN:∀k:Nat,k<91->Lf (lnA (k:Int)) ((k:Int)%7):=by
 intro k hk
 have z:=adH (k:=(k:Int)) (by omega) (by omega)
 exact⟨z.2.1,by omega,by omega⟩
theorem nvr_all{m3:Int}{kd kw:Option (List Mk)}:nvr m3 kd kw=true↔∀k:Nat,k<91->dIn m3 kd kw (k:Int)=0:=by
 unfold nvr
 rw[List.all_map,bZ]
 constructor
 ·intro h k hk
  exact eA (h k (cT.mpr hk))
 ·intro h k hk
  exact eC (h k (cT.mp hk))
theorem aFE{m3:Int}{ns:List Int}{kd kw:Option (List Mk)}(hm:m3=aaO ns)(hns:∀n∈ns,1<=n/\n<=12)(od:∀ks,kd=some ks->∀k∈ks,k.ok)(ow:∀ks,kw=some ks->∀k∈ks,k.ok)(nd:aqF kd)(nwk:aqF kw):nvr m3 kd kw=true↔Nvl ns kd kw:=by
 rw[nvr_all]
 have inm:∀{m:Int},1<=m->(tb m3 m.toNat=true↔m∈ns):=fun {m} h1=>by
  rw[hm,abW,List.any_eq_true]
  constructor
  ·rintro⟨n,hn,e⟩
   have:=hns n hn
   have e:=eA e
   rw[show m=n by omega]
   exact hn
  ·intro h
   exact⟨m,h,eC rfl⟩
 constructor
 ·intro h m hmn l hl f hf d hd
  have b:=hns m hmn
  obtain⟨k0,k1,k2,k3⟩:=awQ (m-1).toNat (by omega) l (by rw[show (((m-1).toNat:Nat):Int)+1=m by omega];exact hl) f hf
  rw[show (((m-1).toNat:Nat):Int)+1=m by omega] at k0 k1 k2 k3
  have z:=h (aw8 m l f).toNat (by omega)
  rw[bU k0.1] at z
  unfold dIn at z
  rw[k1,k2,k3,if_pos ((inm b.1).mpr hmn)] at z
  rw[z]
  exact aaT _
 ·intro h k hk
  unfold dIn
  split
  ·rename_i c
   have ml:=adH (k:=(k:Int)) (by omega) (by omega)
   have lf:=ajN k hk
   have hin:=(inm ml.1.1).mp c
   have lt:=arJ lf od ow
   refine abM (agT lf od ow) (aZ 0) fun i=>?_
   rw[aaT]
   rcases Nat.eq_zero_or_pos i with rfl | hi
   ·exact auQ lf od ow nd nwk
   ·rcases cV (lnA (k:Int)).toNat i with w | w
    ·exact acV lt w
    ·have z:=h _ hin _ (awH k hk) (k%7) (by omega) (i-1) (by omega)
     rw[show i-1+1=i by omega] at z
     exact z
  ·rfl
theorem aHO{m3:Int}{t u:List Nat}{kd kw:Option (List Mk)}(hd:DT false t kd)(hw:DT true u kw):nvr m3 (gO false kd) (gO true kw)=nvr m3 kd kw:=by
 rw[cG,nvr_all,nvr_all]
 have e:∀k:Nat,k<91->dIn m3 (gO false kd) (gO true kw) (k:Int)=dIn m3 kd kw (k:Int):=fun k hk=>by
  unfold dIn
  rw[auX hd hw (ajN k hk)]
 exact⟨fun h k hk=>by rw[←e k hk];exact h k hk,fun h k hk=>by rw[e k hk];exact h k hk⟩
theorem aBW{tm m3:Int}{kd kw:Option (List Mk)}(hg:GOk (aaP tm m3 kd kw))(h:nvr m3 kd kw=true):∀t,¬EvG (aaP tm m3 kd kw) t:=fun t hE=>by
 rw[nvr_all] at h
 obtain⟨M,_,_,a3⟩:=hE
 unfold WM at a3
 rw[au9 hg,bF] at a3
 have a3:=a3.2
 have kl:=ab5 M
 have z:=h (abO M).toNat (by omega)
 rw[bU kl.1] at z
 unfold aaP at a3
 rw[z,aaT,if_neg (by decide),aaT] at a3
 cases a3
theorem aB0{tm m3:Int}{kd kw:Option (List Mk)}(hg:GOk (aaP tm m3 kd kw)){r:Nat}(hr:r<1440)(ht:tb tm r=true)(h:nvr m3 kd kw=false)(od:∀ks,kd=some ks->∀k∈ks,k.ok)(ow:∀ks,kw=some ks->∀k∈ks,k.ok)(nd:aqF kd)(nwk:aqF kw):∃t,EvG (aaP tm m3 kd kw) t:=by
 obtain⟨k,hk,hne⟩:∃k:Nat,k<91/\dIn m3 kd kw (k:Int)≠0:=Classical.byContradiction fun n=>by
  have:nvr m3 kd kw=true:=nvr_all.mpr fun k hk=>Classical.byContradiction fun c=>n ⟨k,hk,c⟩
  rw[this] at h
  cases h
 have lf:=ajN k hk
 have eD:dIn m3 kd kw (k:Int)=aaY kd kw (lnA (k:Int)) ((k:Int)%7):=by
  unfold dIn at hne ⊢
  split
  ·rfl
  ·rename_i c
   rw[if_neg c] at hne
   exact absurd rfl hne
 obtain⟨i,hi⟩:∃i,tb (dIn m3 kd kw (k:Int)) i=true:=Classical.byContradiction fun n=>hne (abM (by rw[eD];exact agT lf od ow) (aZ 0) fun i=>by
  rw[aaT]
  cases c:tb (dIn m3 kd kw (k:Int)) i
  ·rfl
  ·exact absurd ⟨i,c⟩ n)
 have i0:1<=i:=by
  rcases Nat.eq_zero_or_pos i with rfl | w
  ·rw[eD,auQ lf od ow nd nwk] at hi;cases hi
  ·exact w
 have i1:i<=(lnA (k:Int)).toNat:=by
  rcases cV (lnA (k:Int)).toNat i with w | w
  ·rw[eD,acV (arJ lf od ow) w] at hi;cases hi
  ·exact w
 obtain⟨j,_,hj,_⟩:=anM (k:=(k:Int)) (by omega) (by omega) 0
 have mo:=akX (k:=(k:Int)) (by omega) (by omega)
 have e1:(12*(0+(j:Int))+abT (k:Int)-1) / 12=0+(j:Int):=by omega
 have e2:(12*(0+(j:Int))+abT (k:Int)-1)%12+1=abT (k:Int):=by omega
 obtain⟨M,eM⟩:∃M,M=12*(0+(j:Int))+abT (k:Int)-1:=⟨_,rfl⟩
 have ek:abO M=(k:Int):=by unfold abO;rw[eM,e1,e2];exact hj
 have el:=avB M
 have up:=aeW M
 rw[ek] at el
 refine⟨SM M+(1440*((i-1:Nat):Int)+(r:Int)),M,?_,?_,?_⟩
 ·omega
 ·unfold SM
  omega
 ·unfold WM
  rw[au9 hg,ek,show (SM M+(1440*((i-1:Nat):Int)+(r:Int))-SM M).toNat=1440*(i-1)+r by omega,show (1440*(i-1)+r) / 1440=i-1 by omega,show (1440*(i-1)+r)%1440=r by omega,eC (by omega),cZ]
  unfold aaP
  rw[show i-1+1=i by omega,if_pos hi]
  exact ht
theorem rr5{d:Int}(h0:0<=d)(h1:d<8):DT true (num d.toNat++[35,53]) (some [.nth (d%7) 5]):=by
 have z:=aQW d.toNat (by omega) 5 (by decide) (by decide)
 have e:num d.toNat++[35]++num 5=num d.toNat++[35,53]:=by rw[List.append_assoc];rfl
 rw[e,bU h0] at z
 exact an4 (ws:=[num d.toNat++[35,53]]) (ks:=[.nth (d%7) 5]) (.cons ⟨z.2,z.1⟩ .nil) (c5 _ _) (by show 1<=20;decide) (fun k hk=>by rw[bE.mp hk];exact⟨rfl,rfl,⟨by omega,by omega⟩,by decide,by decide⟩) (fun y=>by
  have:=congrArg (fun l:List Nat=>l.getLast?) y
  change (num d.toNat++[35,53]).getLast? =_ at this
  rw[List.getLast?_append] at this
  cases this)
theorem amS{ns:List Int}(h:∀n∈ns,1<=n/\n<=12):Paired (agY 1 12) (ns.map fun n=>num n.toNat) (ns.map fun n=>[n]):=by
 induction ns with
 |nil=>exact .nil
 |cons n r ih=>
  have b:=h n bP
  exact .cons (i1 (by decide) b.1 b.2 (by decide)) (ih fun m hm=>h m (bM _ hm))
theorem ayQ(ns:List Int):(ns.map fun n=>[n]).flatten=ns:=by
 induction ns with
 |nil=>rfl
 |cons n r ih=>rw[bG,List.flatten_cons,ih];rfl
theorem awI{ns:List Int}(h:∀n∈ns,1<=n/\n<=12)(hne:ns≠[])(hl:ns.length<=20):FT 1 12 (aaW 44 (ns.map fun n=>num n.toNat)) (aaO ns):=by
 have z:=ak0 (amS h) (fun e=>hne (List.map_eq_nil_iff.mp e)) (by rw[aU];exact hl)
 rw[ayQ] at z
 exact z
theorem aAO{d:Int}(h0:0<=d)(h1:d<60):FT 0 59 (num d.toNat) (aaO [d]):=by
 have h:FT 0 59 (aaW 44 [num d.toNat]) (aaO [[d]].flatten):=ak0 (.cons (i1 (by decide) h0 (by omega) (by decide)) .nil) (c5 _ _) (by show 1<=20;decide)
 exact h
theorem ft_hours:FT 0 23 [42] (aaO (acU 0 23 1)):=by
 have h:FT 0 23 (aaW 44 [[42]]) (aaO [acU 0 23 1].flatten):=ak0 (.cons (i0 (by decide) (by decide) (by decide)) .nil) (c5 _ _) (by decide)
 have e:aaW 44 [[42]]=[42]:=by decide +kernel
 rw[e,List.flatten_singleton] at h
 exact h
theorem ad8:aaO (acU 0 23 1)<2^24/\tb (aaO (acU 0 23 1)) 0=true:=by decide +kernel
theorem aGK{d:Int}(h0:0<=d)(h1:d<60):tb (tmF (aaO (acU 0 23 1)) (aaO [d])) d.toNat=true:=by
 refine azR ft_hours.nn ad8.1 (aAO h0 h1).nn ?_ ?_
 ·rw[show d.toNat / 60=0 by omega]
  exact ad8.2
 ·rw[show d.toNat%60=d.toNat by omega,abW]
  exact List.any_eq_true.mpr ⟨d,bE.mpr rfl,eC rfl⟩
noncomputable def SpI(c:Int)(bm:Bool)(p S M:Addr)(H3:Hp)(i:Nat)(σ:L2.St)(H2:Hp):Prop:=∃(v5 v6:Option V) (ns:List Int),σ=[some (.int c),some (.bl bm),some (.ref p),some (.ref S),some (.ref M),v5,v6,none,none,none,none]/\Same H3 H2/\H2 M=some (.lst (ns.map V.int))/\(∀n∈ns,1<=n/\n<=12)/\ns.length=i
theorem aBD{tm m3:Int}{kd kw:Option (List Mk)}(h:agQ tm):GOk (aaP tm m3 kd kw):=fun k j=>by
 unfold aaP
 split
 ·exact h
 ·exact⟨aZ 0,aaM _⟩
theorem ev_g{tm m3 t:Int}{u w:List Nat}{kd kw:Option (List Mk)}(hd:DT false u kd)(hw:DT true w kw)(h:EvG (aaP tm m3 kd kw) t):EvG (aaP tm m3 (gO false kd) (gO true kw)) t:=by
 obtain⟨M,a1,a2,a3⟩:=h
 refine⟨M,a1,a2,?_⟩
 have kl:=ab5 M
 have e:dIn m3 (gO false kd) (gO true kw) (abO M)=dIn m3 kd kw (abO M):=by
  unfold dIn
  have lf:=ajN (abO M).toNat (by omega)
  rw[bU kl.1] at lf
  rw[auX hd hw lf]
 have e2:aaP tm m3 (gO false kd) (gO true kw) (abO M)=aaP tm m3 kd kw (abO M):=funext fun j=>by
  unfold aaP
  rw[e]
 unfold WM wK acF at a3 ⊢
 rw[e2]
 exact a3
noncomputable def asP(K:FG):Sp:=fun vs H Q _=>∃y:Int,vs=[.int y]/\Q (.bl (abC y)) H
noncomputable def ae1(K:FG):Sp:=fun vs H Q _=>∃y z:Int,vs=[.int y,.int z]/\(0<z/\z<1073741824)/\Q (.int (mb y z)) H
noncomputable def alA(K:FG):Sp:=fun vs H Q _=>∃y:Int,vs=[.int y]/\Q (.int (db y)) H
noncomputable def auE(K:FG):Sp:=fun vs H Q _=>∃y m:Int,vs=[.int y,.int m]/\(1<=m/\m<=12)/\Q (.int (aaD y m)) H
noncomputable def aqV(K:FG):Sp:=fun vs H Q _=>∃i:Int,vs=[.int i]/\Q (.bl true) H
noncomputable def asI(K:FG):Sp:=fun vs H Q _=>∃y m k:Int,vs=[.int y,.int m,.int k]/\((1<=m/\m<=12)/\1<=k/\k<=aaD y m)/\Q (.bl true) H
noncomputable def awL(K:FG):Sp:=fun vs H Q _=>∃y m k:Int,vs=[.int y,.int m,.int k]/\((1<=m/\m<=12)/\1<=k/\k<=aaD y m)/\∀H',Same H H'->Q (.int (db y+ahead y m+k-1)) H'
noncomputable def asL(K:FG):Sp:=fun vs H Q _=>∃d:Int,vs=[.int d]/\∀y:Int,db y<=d->d<db (y+1)->Q (.int y) H
noncomputable def as6(K:FG):Sp:=fun vs H Q _=>∃d:Int,vs=[.int d]/\∀(y m k:Int) (p:Addr) (H':Hp),OkD y m k->adW y m k=d->Same H H'->H' p=some (.tup [.int y,.int m,.int k])->Q (.ref p) H'
noncomputable def at0(K:FG):Sp:=fun vs H Q _=>∃d:Int,vs=[.int d]/\Q (.int ((d+6)%7)) H
noncomputable def ao7(K:FG):Sp:=fun vs H Q _=>∃y m d:Int,vs=[.int y,.int m,.int d]/\Q (.int (7*plc y m+(d+6)%7)) H
noncomputable def at7(K:FG):Sp:=fun vs H Q _=>∃y m:Int,vs=[.int y,.int m]/\(1<=m/\m<=12)/\∀H':Hp,Same H H'->Q (.int (kindOf y m)) H'
noncomputable def awJ(K:FG):Sp:=fun vs H Q _=>∃mo:Int,vs=[.int mo]/\∀(p:Addr) (H':Hp),Same H H'->H' p=some (.tup [.int (mo / 1440),.int (mo%1440 / 60),.int (mo%1440%60)])->Q (.ref p) H'
noncomputable def aj6(K:FG):Sp:=fun vs H Q _=>∃l:List Nat,vs=[.str (Tx l)]/\l.length<=2000/\∀H',Same H H'->Q (.bl (ar3 l)) H'
noncomputable def alT(K:FG):Sp:=fun vs H Q _=>∃l:List Nat,vs=[.str (Tx l)]/\l.length<=2000/\∀H',Same H H'->Q (.bl (isW l)) H'
noncomputable def aGC(K:FG):Sp:=fun vs H Q _=>∃m n:Int,vs=[.int m,.int n]/\(0<=m/\0<=n)/\Q (.bl (tb m n.toNat)) H
noncomputable def auC(K:FG):Sp:=fun vs H Q _=>∃(a:Addr) (zs:List Int),vs=[.ref a]/\SqL K H a (zs.map V.int)/\(∀z∈zs,0<=z/\z<=100000)/\Q (.int (aaO zs)) H
noncomputable def alY(K:FG):Sp:=fun vs H Q _=>∃m:Int,vs=[.int m]/\(0<=m/\Builtin.Int.intBits m<=100000)/\∀(p:Addr) (H':Hp),Same H H'->H' p=some (.lst ((arO m).map V.int))->Q (.ref p) H'
noncomputable def ap9(K:FG):Sp:=fun vs H Q _=>∃a b s:Int,vs=[.int a,.int b,.int s]/\(0<=a/\a<=1000)/\(-1<=b/\b<=1000)/\(0<s/\s<=1000)/\∀H',Same H H'->Q (.int (ai4 a b s)) H'
noncomputable def alQ(K:FG):Sp:=fun vs H Q _=>∃(l:List Nat) (lo hi:Int),vs=[.str (Tx l),.int lo,.int hi]/\l.length<=600/\∀H',Same H H'->Q (oV (aaX lo hi l)) H'
noncomputable def arP(K:FG):Sp:=fun vs H Q _=>∃(l:List Nat) (lo hi:Int),vs=[.str (Tx l),.int lo,.int hi]/\l.length<=500/\∀(r:V) (H':Hp),Same H H'->RunV H' r (aaZ lo hi l)->Q r H'
noncomputable def aiQ(K:FG):Sp:=fun vs H Q _=>∃(r s:List Nat) (lo hi:Int),vs=[.str (Tx r),.str (Tx s),.int lo,.int hi]/\r.length<=400/\s.length<=400/\(0<=lo/\lo<=hi/\hi<=1000)/\∀H',Same H H'->Q (oV (abK lo hi r s)) H'
noncomputable def aoT(K:FG):Sp:=fun vs H Q _=>∃(l:List Nat) (lo hi:Int),vs=[.str (Tx l),.int lo,.int hi]/\l.length<=300/\(0<=lo/\lo<=hi/\hi<=1000)/\∀H',Same H H'->Q (oV (aaI lo hi l)) H'
noncomputable def al6(K:FG):Sp:=fun vs H Q _=>∃(l:List Nat) (lo hi:Int),vs=[.str (Tx l),.int lo,.int hi]/\l.length<=300/\(0<=lo/\lo<=hi/\hi<=1000)/\avS lo hi l/\∀H',Same H H'->Q (.int (orM (adE lo hi l))) H'
noncomputable def amC(K:FG):Sp:=fun vs H Q _=>∃d f:Int,vs=[.int d,.int f]/\Q (.int ((f+d-1)%7)) H
noncomputable def aqE(K:FG):Sp:=fun vs H Q _=>∃l:Int,vs=[.int l]/\(28<=l/\l<=31)/\Q (.int (2*2^l.toNat-2)) H
noncomputable def ai8(K:FG):Sp:=fun vs H Q _=>∃d l f:Int,vs=[.int d,.int l,.int f]/\Q (.int (nw d l f)) H
noncomputable def ao0(K:FG):Sp:=fun vs H Q _=>∃w f:Int,vs=[.int w,.int f]/\Q (.int (1+(w-f)%7)) H
noncomputable def aoV(K:FG)(C:Addr):Sp:=fun vs H Q _=>∃(p:Addr) (l f:Int),vs=[.ref p,.int l,.int f]/\Q (.int 0) H
noncomputable def ae6(K:FG)(C:Addr):Sp:=fun vs H Q _=>∃(p dx:Addr) (m:Int),vs=[.ref p,.int m]/\H p=some (.ins C dx [])/\Q .non (upd H p (.ins C dx [("mask",.int m)]))
noncomputable def ai6(K:FG)(C:Addr):Sp:=fun vs H Q _=>∃(p dx:Addr) (m l f:Int),vs=[.ref p,.int l,.int f]/\H p=some (.ins C dx [("mask",.int m)])/\Lf l f/\Q (.int (akQ m l)) H
noncomputable def ag6(K:FG)(C:Addr):Sp:=fun vs H Q _=>∃(p dx:Addr) (m:Int),vs=[.ref p,.int m]/\H p=some (.ins C dx [])/\Q .non (upd H p (.ins C dx [("back",.int m)]))
noncomputable def apB(K:FG)(C:Addr):Sp:=fun vs H Q _=>∃(p dx:Addr) (b l f:Int),vs=[.ref p,.int l,.int f]/\H p=some (.ins C dx [("back",.int b)])/\(0<=b/\b<=30)/\Lf l f/\Q (.int (apG b l)) H
noncomputable def ahL(K:FG)(C:Addr):Sp:=fun vs H Q _=>∃(p dx:Addr) (m:Int),vs=[.ref p,.int m]/\H p=some (.ins C dx [])/\Q .non (upd H p (.ins C dx [("day",.int m)]))
noncomputable def apV(K:FG)(C:Addr):Sp:=fun vs H Q _=>∃(p dx:Addr) (d l f:Int),vs=[.ref p,.int l,.int f]/\H p=some (.ins C dx [("day",.int d)])/\Ok3 d l f/\Q (.int (apS d l f)) H
noncomputable def ahK(K:FG)(C:Addr):Sp:=fun vs H Q _=>∃(p dx:Addr) (l f:Int),vs=[.ref p,.int l,.int f]/\H p=some (.ins C dx [])/\Ok3 l l f/\Q (.int (1*2^(nw l l f).toNat)) H
noncomputable def aeF(K:FG)(C:Addr):Sp:=fun vs H Q _=>∃(p dx:Addr) (m:Int),vs=[.ref p,.int m]/\H p=some (.ins C dx [])/\Q .non (upd H p (.ins C dx [("mask",.int m)]))
noncomputable def ahR(K:FG)(C:Addr):Sp:=fun vs H Q _=>∃(p dx:Addr) (m l f:Int),vs=[.ref p,.int l,.int f]/\H p=some (.ins C dx [("mask",.int m)])/\(0<=m/\m<=127)/\Lf l f/\Q (.int (wkD m l f)) H
noncomputable def ajA(K:FG)(C:Addr):Sp:=fun vs H Q _=>∃(p dx:Addr) (w m:Int),vs=[.ref p,.int w,.int m]/\H p=some (.ins C dx [])/\Q .non (upd (upd H p (.ins C dx (aaU "weekday" (.int w) []))) p (.ins C dx (ao9 w m)))
noncomputable def ar4(K:FG)(C:Addr):Sp:=fun vs H Q _=>∃(p dx:Addr) (w m l f:Int),vs=[.ref p,.int l,.int f]/\H p=some (.ins C dx (ao9 w m))/\(0<=w/\w<=6)/\(1<=m/\m<=5)/\Lf l f/\Q (.int (al8 w m l f)) H
noncomputable def aeX(K:FG)(C:Addr):Sp:=fun vs H Q _=>∃(p dx:Addr) (m:Int),vs=[.ref p,.int m]/\H p=some (.ins C dx [])/\Q .non (upd H p (.ins C dx [("weekday",.int m)]))
noncomputable def ajH(K:FG)(C:Addr):Sp:=fun vs H Q _=>∃(p dx:Addr) (w l f:Int),vs=[.ref p,.int l,.int f]/\H p=some (.ins C dx [("weekday",.int w)])/\(0<=w/\w<=6)/\Lf l f/\Q (.int (aC6 w l f)) H
noncomputable def arG(K:FG)(aB aE aF aH aD aA aG aI:Addr):Sp:=fun vs H Q _=>∃(b:Addr) (ps:List Addr) (ks:List Mk) (l f:Int),vs=[.ref b,.int l,.int f]/\SqL K H b (ps.map V.ref)/\Ft (MkAt (⟨aB,aE,aF,aH,aD,aA,aG,aI⟩:Cs) H) ps ks/\(∀k∈ks,k.ok)/\Lf l f/\Q (.int (orK ks l f)) H
noncomputable def agZ(K:FG)(aB aE aF aH aD aA aG aI:Addr):Sp:=fun vs H Q _=>∃t:List Nat,vs=[.str (Tx t)]/\t.length<=300/\∀(v:V) (H':Hp),Same H H'->MkV (⟨aB,aE,aF,aH,aD,aA,aG,aI⟩:Cs) H' v (ac1 t)->Q v H'
noncomputable def ajD(K:FG):Sp:=fun vs H Q _=>∃t:List Nat,vs=[.str (Tx t)]/\t.length<=300/\∀H',Same H H'->Q (oV (wdN t)) H'
noncomputable def ad9(K:FG)(aB aE aF aH aD aA aG aI:Addr):Sp:=fun vs H Q _=>∃t:List Nat,vs=[.str (Tx t)]/\t.length<=300/\∀(v:V) (H':Hp),Same H H'->MkV (⟨aB,aE,aF,aH,aD,aA,aG,aI⟩:Cs) H' v (ao6 t)->Q v H'
noncomputable def al1(K:FG)(aB aE aF aH aD aA aG aI aO aP:Addr):Sp:=fun vs H Q _=>∃(l:List Nat) (lo hi:Int) (wk:Bool),vs=[.str (Tx l),.int lo,.int hi,.ref (if wk=true then aP else aO)]/\(0<=lo/\lo<=hi/\hi<=1000)/\ItemsOk wk lo hi l/\∀(p m:Addr) (qs:List Addr) (H':Hp),H m=none->Same H H'->H' p=some (.tup [.int (orM (plP lo hi (spl 44 l))),.ref m])->H' m=some (.lst (qs.map V.ref))->Ft (MkAt (⟨aB,aE,aF,aH,aD,aA,aG,aI⟩:Cs) H') qs (mkP wk lo hi (spl 44 l))->Q (.ref p) H'
noncomputable def aoI(K:FG)(aB aE aF aH aD aA aG aI:Addr):Sp:=fun vs H Q _=>∃l:List Nat,vs=[.str (Tx l)]/\ItemsOk false 1 31 l/\(l=[42]->∀H',Same H H'->Q .non H')/\(l≠[42]->∀(m:Addr) (qs:List Addr) (H':Hp),H m=none->Same H H'->H' m=some (.lst (qs.map V.ref))->Ft (MkAt (⟨aB,aE,aF,aH,aD,aA,aG,aI⟩:Cs) H') qs (aj2 false 1 31 l)->Q (.ref m) H')
noncomputable def ahQ(K:FG)(aB aE aF aH aD aA aG aI:Addr):Sp:=fun vs H Q _=>∃l:List Nat,vs=[.str (Tx l)]/\ItemsOk true 0 7 l/\(l=[42]->∀H',Same H H'->Q .non H')/\(l≠[42]->∀(m:Addr) (qs:List Addr) (H':Hp),H m=none->Same H H'->H' m=some (.lst (qs.map V.ref))->Ft (MkAt (⟨aB,aE,aF,aH,aD,aA,aG,aI⟩:Cs) H') qs (aj2 true 0 7 l)->Q (.ref m) H')
noncomputable def apZ(K:FG):Sp:=fun vs H Q _=>∃k:Int,vs=[.int k]/\(0<=k/\k<=90)/\∀(p:Addr) (H':Hp),Same H H'->H' p=some (.tup ((aj4 k).map V.int))->Q (.ref p) H'
noncomputable def arQ(K:FG):Sp:=fun vs H Q _=>∃h m:Int,vs=[.int h,.int m]/\(0<=h/\h<2^24)/\(0<=m/\m<2^60)/\∀(t:Int) (H':Hp),t=tmF h m->Same H H'->Q (.int t) H'
noncomputable def asZ(K:FG)(aB aE aF aH aD aA aG aI:Addr):Sp:=fun vs H Q _=>∃(dv wv:V) (kd kw:Option (List Mk)) (l f:Int),vs=[dv,wv,.int l,.int f]/\DV (⟨aB,aE,aF,aH,aD,aA,aG,aI⟩:Cs) H dv kd/\DV (⟨aB,aE,aF,aH,aD,aA,aG,aI⟩:Cs) H wv kw/\Lf l f/\∀H',Same H H'->Q (.int (aaY kd kw l f)) H'
noncomputable def ai3(K:FG)(C:Addr):Sp:=fun vs H Q _=>∃(p dx fa:Addr) (m0 m1 m3:Int) (dv wv:V),vs=[.ref p,.ref fa]/\H p=some (.ins C dx [])/\H fa=some (.lst [.int m0,.int m1,dv,.int m3,wv])/\(0<=m0/\m0<2^60)/\(0<=m1/\m1<2^24)/\∀(tm:Int) (H':Hp),tm=tmF m1 m0->H' p=some (.ins C dx (abZ m0 m1 dv m3 wv tm))->(∀b o,H b=some o->b≠p->H' b=some o)->Q .non H'
noncomputable def alG(K:FG)(C:Addr)(aB aE aF aH aD aA aG aI:Addr):Sp:=fun vs H Q _=>∃(p dx:Addr) (m0 m1 m3 tm k:Int) (dv wv:V) (kd kw:Option (List Mk)),vs=[.ref p,.int k]/\H p=some (.ins C dx (abZ m0 m1 dv m3 wv tm))/\(0<=k/\k<=90)/\0<=m3/\DV (⟨aB,aE,aF,aH,aD,aA,aG,aI⟩:Cs) H dv kd/\DV (⟨aB,aE,aF,aH,aD,aA,aG,aI⟩:Cs) H wv kw/\∀H',Same H H'->Q (.int (if tb m3 (mnA k).toNat=true then aaY kd kw (lnA k) (k%7) else 0)) H'
noncomputable def apE(K:FG)(aB aE aF aH aD aA aG aI:Addr):Sp:=fun vs H Q _=>∃(t:List Nat) (pl:Int),vs=[.str (Tx t),.int pl]/\((pl=2/\∃ko,DT false t ko/\∀(v:V) (H':Hp),Same H H'->DV (⟨aB,aE,aF,aH,aD,aA,aG,aI⟩:Cs) H' v (gO false ko)->(∀p,v=.ref p->H p=none)->Q v H')∨(pl=4/\∃ko,DT true t ko/\∀(v:V) (H':Hp),Same H H'->DV (⟨aB,aE,aF,aH,aD,aA,aG,aI⟩:Cs) H' v (gO true ko)->(∀p,v=.ref p->H p=none)->Q v H')∨(∃lo hi m:Int,(pl=0/\lo=0/\hi=59∨pl=1/\lo=0/\hi=23∨pl=3/\lo=1/\hi=12)/\FT lo hi t m/\∀H',Same H H'->Q (.int m) H'))
noncomputable def auA(K:FG)(aB aE aF aH aD aA aG aI:Addr):Sp:=fun vs H Q _=>∃(t:List Nat) (pl:Int),vs=[.str (Tx t),.int pl]/\((pl=2/\∃ko,DT false t ko/\∀(v:V) (H':Hp),Same H H'->DV (⟨aB,aE,aF,aH,aD,aA,aG,aI⟩:Cs) H' v (gO false ko)->(∀p,v=.ref p->H p=none)->Q v H')∨(pl=4/\∃ko,DT true t ko/\∀(v:V) (H':Hp),Same H H'->DV (⟨aB,aE,aF,aH,aD,aA,aG,aI⟩:Cs) H' v (gO true ko)->(∀p,v=.ref p->H p=none)->Q v H')∨(∃lo hi m:Int,(pl=0/\lo=0/\hi=59∨pl=1/\lo=0/\hi=23∨pl=3/\lo=1/\hi=12)/\FT lo hi t m/\∀H',Same H H'->Q (.int m) H'))
noncomputable def aq5(K:FG)(aB aE aF aH aD aA aG aI aJ:Addr):Sp:=fun vs H Q _=>∃(w0 w1 w2 w3 w4:List Nat) (m0 m1 m3:Int) (kd kw:Option (List Mk)),vs=[.str (Tx (aaW 32 [w0,w1,w2,w3,w4]))]/\FT 0 59 w0 m0/\FT 0 23 w1 m1/\FT 1 12 w3 m3/\DT false w2 kd/\DT true w4 kw/\(m0<2^60/\m1<2^24)/\∀(x dx:Addr) (dv wv:V) (tm:Int) (H':Hp),tm=tmF m1 m0->Same H H'->H' x=some (.ins aJ dx (abZ m0 m1 dv m3 wv tm))->DV (⟨aB,aE,aF,aH,aD,aA,aG,aI⟩:Cs) H' dv (gO false kd)->DV (⟨aB,aE,aF,aH,aD,aA,aG,aI⟩:Cs) H' wv (gO true kw)->Q (.ref x) H'
noncomputable def akO(K:FG)(C:Addr)(aB aE aF aH aD aA aG aI:Addr):Sp:=fun vs H Q _=>∃(p dx:Addr) (m0 m1 m3 tm mo:Int) (dv wv:V) (kd kw:Option (List Mk)),vs=[.ref p,.int mo]/\H p=some (.ins C dx (abZ m0 m1 dv m3 wv tm))/\(0<=m0/\0<=m1/\0<=m3)/\DV (⟨aB,aE,aF,aH,aD,aA,aG,aI⟩:Cs) H dv kd/\DV (⟨aB,aE,aF,aH,aD,aA,aG,aI⟩:Cs) H wv kw/\∀(y m k:Int) (H':Hp),OkD y m k->adW y m k=mo / 1440->Same H H'->Q (shK m0 m1 m3 kd kw (mo / 1440) (mo%1440) y m k) H'
noncomputable def al0(K:FG):Sp:=fun vs H Q _=>∃N:Int,vs=[.int (N / 12),.int (N%12+1)]/\∀(t:Addr) (H':Hp),Same H H'->H' t=some (.tup [.int ((N+1) / 12),.int ((N+1)%12+1)])->Q (.ref t) H'
noncomputable def ai0(K:FG):Sp:=fun vs H Q _=>∃N:Int,vs=[.int (N / 12),.int (N%12+1)]/\∀(t:Addr) (H':Hp),Same H H'->H' t=some (.tup [.int ((N-1) / 12),.int ((N-1)%12+1)])->Q (.ref t) H'
noncomputable def ap5(K:FG):Sp:=fun vs H Q _=>∃mo:Int,vs=[.int mo]/\∀(N:Int) (t:Addr) (H':Hp),Same H H'->1440*ai9 N<=mo->mo<1440*ai9 (N+1)->H' t=some (.tup [.int (N / 12),.int (N%12+1)])->Q (.ref t) H'
noncomputable def alW(K:FG):Sp:=fun vs H Q _=>∃(d:Addr) (ts:List Int),vs=[.ref d]/\SqL K H d (ts.map V.int)/\ts.length<=31/\(∀t∈ts,agQ t)/\∀H',Same H H'->Q (.int (mnN (fun j=>ts.getD j 0) ts.length)) H'
noncomputable def axM(K:FG):Sp:=fun vs H Q _=>∃(m:Int) (k:Nat),vs=[.int m]/\0<m/\tb m k=true/\(∀j,j<k->tb m j=false)/\Q (.int k) H
noncomputable def ag4(K:FG)(aB aE aF aH aD aA aG aI aJ:Addr):Sp:=fun vs H Q _=>∃(p dx:Addr) (m0 m1 m3 tm d:Int) (dv wv:V) (kd kw:Option (List Mk)),vs=[.ref p,.int d]/\H p=some (.ins aJ dx (abZ m0 m1 dv m3 wv tm))/\(0<=m0/\0<=m1/\0<=m3)/\DV (⟨aB,aE,aF,aH,aD,aA,aG,aI⟩:Cs) H dv kd/\DV (⟨aB,aE,aF,aH,aD,aA,aG,aI⟩:Cs) H wv kw/\(∀y m k:Int,OkD y m k->adW y m k=d->tb m3 m.toNat=true->tb (aaY kd kw (aaD y m) ((d-k+1+6)%7)) k.toNat=false)/\∀(r:Int) (H':Hp),d<=r->Same H H'->Q (.int r) H'
noncomputable def asD(K:FG)(aB aE aF aH aD aA aG aI aJ:Addr):Sp:=fun vs H Q _=>∃(p dx:Addr) (tw:List Nat) (m0 m1 m3 tm d:Int) (dv wv:V) (kd kw:Option (List Mk)),vs=[.ref p,.int d,.str (Tx tw)]/\H p=some (.ins aJ dx (abZ m0 m1 dv m3 wv tm))/\(0<=m0/\0<=m1/\0<=m3)/\DV (⟨aB,aE,aF,aH,aD,aA,aG,aI⟩:Cs) H dv kd/\DV (⟨aB,aE,aF,aH,aD,aA,aG,aI⟩:Cs) H wv kw/\(tw≠[109,105,110,117,116,101]->tw≠[104,111,117,114]->∀y m k:Int,OkD y m k->adW y m k=d / 1440->tb m3 m.toNat=true->tb (aaY kd kw (aaD y m) ((d / 1440-k+1+6)%7)) k.toNat=false)/\∀(r:Int) (H':Hp),d<=r->(tw≠[109,105,110,117,116,101]->(r+1)%60=0)->Same H H'->Q (.int r) H'
noncomputable def alH(K:FG):Sp:=fun vs H Q _=>∃(p:Addr) (vs':List V) (sts:List TrX) (a b:Int) (tm:List Nat),vs=[.ref p,.int a,.int b,.str (Tx tm)]/\H p=some (.lst vs')/\Paired (TpX H) vs' sts/\vs'.length<=10000000/\∀H' us,H' p=some (.lst us)->Paired (TpX H') us (an3 sts a b tm)->(∀q o,q≠p->H q=some o->H' q=some o)->Q .non H'
noncomputable def arT(K:FG)(aB aE aF aH aD aA aG aI aJ:Addr):Sp:=fun vs H Q _=>∃(p:Addr) (b e m0 m1 m3:Int) (kd kw:Option (List Mk)),vs=[.ref p,.int b,.int e]/\RowR (⟨aB,aE,aF,aH,aD,aA,aG,aI⟩:Cs) aJ H p m0 m1 m3 kd kw/\(∀t,b<=t->t<=e->¬EvG (aaP (tmF m1 m0) m3 kd kw) t)/\e-b<=23000000/\∀l us H',H l=none->Same H H'->H' l=some (.lst us)->(e<b->us=[])->Q (.ref l) H'
noncomputable def aeL(K:FG)(C:Addr)(aB aE aF aH aD aA aG aI:Addr):Sp:=fun vs H Q _=>∃(p dx:Addr) (m0 m1 m3 tm k:Int) (dv wv:V) (kd kw:Option (List Mk)),vs=[.ref p,.int k]/\H p=some (.ins C dx (abZ m0 m1 dv m3 wv tm))/\(0<=k/\k<=90)/\0<=m3/\DV (⟨aB,aE,aF,aH,aD,aA,aG,aI⟩:Cs) H dv kd/\DV (⟨aB,aE,aF,aH,aD,aA,aG,aI⟩:Cs) H wv kw/\∀D H',Same H H'->H' D=some (.lst ((acF (aaP tm m3 kd kw) k).map V.int))->Q (.ref D) H'
noncomputable def alV(P:Program)(w:World)(mg:Str->Option Value)(base:Heap)(K:FG):Sp:=fun vs H Q _=>∃(kn f:Addr) (kd:Int) (kvs:List (Key×V)) (g:Int->Nat->Int) (H0:Hp),vs=[.ref kn,.ref f,.int kd]/\(0<=kd/\kd<=90)/\H kn=some (.dK kvs)/\axE g kvs/\kvs.length<=1000/\GOk g/\H0 kn=none/\Same H0 H/\aoO P w K mg base 8 H0 f g/\∀kvs' H',H' kn=some (.dK kvs')->axE g kvs'->kvs'.length<=kvs.length+1->(∀b o,b≠kn->H b=some o->H' b=some o)->Q (.int (wK g kd)) H'
noncomputable def ap7(P:Program)(w:World)(mg:Str->Option Value)(base:Heap)(K:FG):Sp:=fun vs H Q _=>∃(f:Addr) (mo:Int) (g:Int->Nat->Int),vs=[.ref f,.int mo]/\GOk g/\aoO P w K mg base 8 H f g/\(∀e H',Same H H'->EvG g e->mo<=e->(∀t,mo<=t->t<e->¬EvG g t)->e-mo<=22000000->Q (.int e) H')/\(∀H',Same H H'->(∀t,¬EvG g t)->Q .non H')
noncomputable def asG(P:Program)(w:World)(mg:Str->Option Value)(base:Heap)(K:FG):Sp:=fun vs H Q _=>∃(f:Addr) (mo:Int) (g:Int->Nat->Int),vs=[.ref f,.int mo]/\GOk g/\aoO P w K mg base 8 H f g/\(∀e H',Same H H'->EvG g e->e<=mo->(∀t,e<t->t<=mo->¬EvG g t)->mo-e<=22000000->Q (.int e) H')/\(∀H',Same H H'->(∀t,¬EvG g t)->Q .non H')
noncomputable def aoE(K:FG)(aB aE aF aH aD aA aG aI aJ aK aL aM:Addr):Sp:=fun vs H Q _=>∃(p:Addr) (mo m0 m1 m3:Int) (kd kw:Option (List Mk)),vs=[.ref p,.int mo]/\RowR (⟨aB,aE,aF,aH,aD,aA,aG,aI⟩:Cs) aJ H p m0 m1 m3 kd kw/\aiS H aK aL aM/\∀t l us H' (v:V),SameN H H'->aiS H' aK aL aM->asT H l->H' t=some (.tup [v,.ref l])->H' l=some (.lst us)->((∃e,v=.int e/\EvG (aaP (tmF m1 m0) m3 kd kw) e/\(mo<=e/\∀t,mo<=t->t<e->¬EvG (aaP (tmF m1 m0) m3 kd kw) t)/\(e=mo->us=[]))∨(v=.non/\us=[]/\∀t,¬EvG (aaP (tmF m1 m0) m3 kd kw) t))->Q (.ref t) H'
noncomputable def atY(K:FG)(aB aE aF aH aD aA aG aI aJ aK aL aM:Addr):Sp:=fun vs H Q _=>∃(p:Addr) (mo m0 m1 m3:Int) (kd kw:Option (List Mk)),vs=[.ref p,.int mo]/\RowR (⟨aB,aE,aF,aH,aD,aA,aG,aI⟩:Cs) aJ H p m0 m1 m3 kd kw/\aiS H aK aL aM/\∀t l us H' (v:V),SameN H H'->aiS H' aK aL aM->asT H l->H' t=some (.tup [v,.ref l])->H' l=some (.lst us)->((∃e,v=.int e/\EvG (aaP (tmF m1 m0) m3 kd kw) e/\(e<=mo/\∀t,e<t->t<=mo->¬EvG (aaP (tmF m1 m0) m3 kd kw) t)/\(e=mo->us=[]))∨(v=.non/\us=[]/\∀t,¬EvG (aaP (tmF m1 m0) m3 kd kw) t))->Q (.ref t) H'
noncomputable def aiR(K:FG):Sp:=fun vs H Q _=>∃(a:Addr) (k:Int),vs=[.ref a,.int k]/\(∃ns:List Int,SqL K H a (ns.map V.int))/\(0<=k/\k<1000)/\∀c:Int,Q (.int c) H
noncomputable def an8(K:FG):Sp:=fun vs H Q _=>∃n:Int,vs=[.int n]/\∀r:Int,0<=r->r<2147483629->Q (.int r) H
noncomputable def alO(K:FG):Sp:=fun vs H Q _=>∃(c:Int) (a:Addr) (b:Bool) (ss:List Int),vs=[.int c,.ref a,.bl b]/\SqL K H a (ss.map V.int)/\(∀z∈ss,0<z/\z<1073741824)/\ss.length<=63/\∀(ds:List Int) (p:Addr) (H':Hp),Same H H'->H' p=some (.lst (ds.map V.int))->Digs ds ss->Q (.ref p) H'
noncomputable def ayI(K:FG)(aB aE aF aH aD aA aG aI aJ:Addr):Sp:=fun vs H Q _=>∃(p:Addr) (m0 m1 m3:Int) (kd kw:Option (List Mk)),vs=[.ref p]/\RowR (⟨aB,aE,aF,aH,aD,aA,aG,aI⟩:Cs) aJ H p m0 m1 m3 kd kw/\∀H',Same H H'->Q (.bl (nvr m3 kd kw)) H'
noncomputable def apO(K:FG):Sp:=fun vs H Q _=>∃d l f:Int,vs=[.int d,.int l,.int f]/\Lf l f/\Dl d l/\∀H',Same H H'->Q (.int (nw d l f)) H'
noncomputable def akY(K:FG):Sp:=fun vs H Q _=>∃(v:V) (k:Mk) (d l f:Int),vs=[v,.int d,.int l,.int f]/\MkD H v k/\k.ok/\Lf l f/\Dl d l/\∀H',Same H H'->Q (.bl (tb (k.due l f) d.toNat)) H'
noncomputable def ar1(K:FG):Sp:=fun vs H Q _=>∃(a:Addr) (us:List V) (ks:List Mk) (d l f:Int),vs=[.ref a,.int d,.int l,.int f]/\H a=some (.lst us)/\Paired (MkD H) us ks/\(∀k∈ks,k.ok)/\Lf l f/\Dl d l/\∀H',Same H H'->Q (.bl (ks.any fun k=>tb (k.due l f) d.toNat)) H'
noncomputable def ahW(K:FG):Sp:=fun vs H Q _=>∃(s:Addr) (x0 x1 x2 v3 x4 v5:V) (kd kw:Option (List Mk)) (d l f:Int),vs=[.ref s,.int d,.int l,.int f]/\H s=some (.tup [x0,x1,x2,v3,x4,v5])/\MV H v3 kd/\MV H v5 kw/\Lf l f/\Dl d l/\∀H',Same H H'->Q (.bl (tb (aaY kd kw l f) d.toNat)) H'
noncomputable def aoG(K:FG):Sp:=fun vs H Q _=>∃st o la:Int,vs=[.int st,.int o,.int la]/\((0<=st/\st<5)/\(28<=o/\o<=31)/\28<=la/\la<=31)/\∀(t:Addr) (tw:List Nat) (v:V) (ko:Option (List Mk)) (H':Hp),Same H H'->H' t=some (.tup [.str (Tx tw),v])->DT false tw ko->MV H' v ko->Q (.ref t) H'
noncomputable def al2(K:FG):Sp:=fun vs H Q _=>∃(s:Addr) (x0 x1 x2 v3 v5:V) (Mn:Addr) (kd kw:Option (List Mk)) (ns:List Int),vs=[.ref s]/\H s=some (.tup [x0,x1,x2,v3,.ref Mn,v5])/\H Mn=some (.lst (ns.map V.int))/\(∀n∈ns,1<=n/\n<=12)/\ns.length<=63/\MV H v3 kd/\MV H v5 kw/\∀(b:Bool) (H':Hp),Same H H'->(b=true↔Nvl ns kd kw)->Q (.bl b) H'
noncomputable def anR(K:FG):Sp:=fun vs H Q _=>∃(c:Int) (bm:Bool),vs=[.int c,.bl bm]/\∀(t:Addr) (w0 w2 w3 w4:List Nat) (dm:Int) (v1 v2 v3 v5:V) (Mn:Addr) (kd kw:Option (List Mk)) (ns:List Int) (H':Hp),Same H H'->H' t=some (.tup [.str (Tx (aaW 32 [w0,[42],w2,w3,w4])),v1,v2,v3,.ref Mn,v5])->H' Mn=some (.lst (ns.map V.int))->(∀n∈ns,1<=n/\n<=12)->ns.length<=63->FT 0 59 w0 (aaO [dm])->FT 1 12 w3 (aaO ns)->DT false w2 kd->DT true w4 kw->(0<=dm/\dm<60)->MV H' v3 kd->MV H' v5 kw->Q (.ref t) H'
noncomputable def al7(K:FG)(aB aE aF aH aD aA aG aI aJ aK aL aM:Addr):Sp:=fun vs H Q _=>∃(p:Addr) (b:Bool) (mo m0 m1 m3:Int) (kd kw:Option (List Mk)),vs=[.ref p,.bl b,.int mo]/\RowR (⟨aB,aE,aF,aH,aD,aA,aG,aI⟩:Cs) aJ H p m0 m1 m3 kd kw/\aiS H aK aL aM/\nvr m3 kd kw=b/\(b=true->∀t,¬EvG (aaP (tmF m1 m0) m3 kd kw) t)/\(b=false->∃t,EvG (aaP (tmF m1 m0) m3 kd kw) t)/\∀H',SameN H H'->aiS H' aK aL aM->Q (.bl true) H'
noncomputable def apP(K:FG)(aK aL aM:Addr):Sp:=fun vs H Q _=>∃(a:Addr) (ns:List Int),vs=[.ref a]/\SqL K H a (ns.map V.int)/\ns.length<=63/\aiS H aK aL aM/\∀H',Q (.bl true) H'
theorem md_Last___init__{K:FG}{C f T:Addr}{od an tod:Option Addr}{sl tsl:Array (Option Value)}{oc kV dc pm cd ct:Value}{tn:Nat}{t0:Tok}(a:PySem.W.findIn K (.ref C) "__init__"=some (some (.ref f)))(i:PySem.W.isFn K (.ref f)=true)(l:K.lookup f=some ⟨oc,od,.func (PySem.W.fnOf "__init__" "Last.__init__" (aa5 aa7) (aaV aa7) (aaC aa7) (.ref T) kV dc pm an cd ct),sl⟩)(c:PySem.W.codeIn K cd "Last.__init__"=true)(k:PySem.W.keepIn K (.ref f)=true)(lt:K.lookup T=some ⟨.type "tuple",tod,.seq #[.int 0 t0] tn,tsl⟩):FnMD K C "__init__" "Last.__init__" aa7 ["self","back"] [.int 0]:=
 aB1 (ds:=[.int 0 t0]) a i l c k (fun s us X hl=>match us,(show us.length=2 by simpa using hl) with | [_,_],_=>PySem.W.binds_K X rfl lt rfl rfl rfl) (.cons ⟨_,rfl⟩ .nil) (fun s us X hl=>match us,(show us.length=1 by simpa using hl) with | [_],_=>PySem.W.binds_K X rfl lt rfl rfl rfl)
theorem q_MONTH_LASTS{K:FG}{a:Addr}{od:Option Addr}{sl:Array (Option Value)}{n:Nat}{t0 t1 t2 t3 t4 t5 t6 t7 t8 t9 t10 t11:Tok}(l:K.lookup a=some ⟨.type "tuple",od,.seq #[.int 31 t0,.int 28 t1,.int 31 t2,.int 30 t3,.int 31 t4,.int 30 t5,.int 31 t6,.int 31 t7,.int 30 t8,.int 31 t9,.int 30 t10,.int 31 t11] n,sl⟩):∀H,SqT K H a (([31,28,31,30,31,30,31,31,30,31,30,31]:List Int).map V.int):=fun H=>.inr ⟨_,_,_,l,rfl,rfl,(zL 12),(.cons ⟨_,rfl⟩ (.cons ⟨_,rfl⟩ (.cons ⟨_,rfl⟩ (.cons ⟨_,rfl⟩ (.cons ⟨_,rfl⟩ (.cons ⟨_,rfl⟩ (.cons ⟨_,rfl⟩ (.cons ⟨_,rfl⟩ (.cons ⟨_,rfl⟩ (.cons ⟨_,rfl⟩ (.cons ⟨_,rfl⟩ (.cons ⟨_,rfl⟩ .nil))))))))))))⟩
theorem q_BOUNDS{K:FG}{a b0 b1 b3:Addr}{ep:Nat}{t0 t1 t3:Tok}(l:K.lookup a=some ⟨.type "dict",none,.dict #[⟨0,.int 0 t0,.ref b0⟩,⟨1,.int 1 t1,.ref b1⟩,⟨3,.int 3 t3,.ref b3⟩] ep,#[]⟩):KD K a [(0,.ref b0),(1,.ref b1),(3,.ref b3)]:=by
 refine⟨_,ep,[(.inl 0,.ref b0),(.inl 1,.ref b1),(.inl 3,.ref b3)],l,(.cons ⟨rfl,rfl⟩ (.cons ⟨rfl,rfl⟩ (.cons ⟨rfl,rfl⟩ .nil))),(show ([.inl 0,.inl 1,.inl 3]:List Key).Nodup by decide),fun P w=>⟨?_,(.cons rfl rfl (.cons rfl rfl (.cons rfl rfl .nil)))⟩⟩
 intro e he
 simp only[Array.mem_toArray,aY,cA,or_false] at he
 rcases he with rfl | rfl | rfl
 ·exact⟨.inl 0,rfl,rfl⟩
 ·exact⟨.inl 1,rfl,rfl⟩
 ·exact⟨.inl 3,rfl,rfl⟩
theorem q_BOUNDS_0{K:FG}{a:Addr}{od:Option Addr}{sl:Array (Option Value)}{n:Nat}{t0 t1:Tok}(l:K.lookup a=some ⟨.type "tuple",od,.seq #[.int 0 t0,.int 59 t1] n,sl⟩):∀H,SqT K H a (([0,59]:List Int).map V.int):=fun H=>.inr ⟨_,_,_,l,rfl,rfl,(zL 2),(.cons ⟨_,rfl⟩ (.cons ⟨_,rfl⟩ .nil))⟩
theorem q_BOUNDS_1{K:FG}{a:Addr}{od:Option Addr}{sl:Array (Option Value)}{n:Nat}{t0 t1:Tok}(l:K.lookup a=some ⟨.type "tuple",od,.seq #[.int 0 t0,.int 23 t1] n,sl⟩):∀H,SqT K H a (([0,23]:List Int).map V.int):=fun H=>.inr ⟨_,_,_,l,rfl,rfl,(zL 2),(.cons ⟨_,rfl⟩ (.cons ⟨_,rfl⟩ .nil))⟩
theorem q_BOUNDS_3{K:FG}{a:Addr}{od:Option Addr}{sl:Array (Option Value)}{n:Nat}{t0 t1:Tok}(l:K.lookup a=some ⟨.type "tuple",od,.seq #[.int 1 t0,.int 12 t1] n,sl⟩):∀H,SqT K H a (([1,12]:List Int).map V.int):=fun H=>.inr ⟨_,_,_,l,rfl,rfl,(zL 2),(.cons ⟨_,rfl⟩ (.cons ⟨_,rfl⟩ .nil))⟩
theorem mg_tx{K:FG}{h:Heap}{mg:Str->Option Value}{x n:Str}{l:List Nat}{t:Tok}(X:K.In h)(G:h.Ns mainGlobals mg)(e:x=Tx l)(a:PySem.W.nsIn K mainGlobals n=some (some (.str x t))):mg n=some (.str (Tx l) t):=e▸PySem.W.mg_of X G a
theorem atQ:FnScope ["year"] ["year"] (aaC amW):=fsc
theorem ae0:FnScope ["year","step"] ["year","step"] (aaC acK):=fsc
theorem sc_days_before:FnScope ["year","longs"] ["year"] (aaC afF):=fsc
theorem atM:FnScope ["year","month"] ["year","month"] (aaC am7):=fsc
theorem aq8:FnScope ["thing"] ["thing"] (aaC ajU):=fsc
theorem asQ:FnScope ["year","month","day"] ["year","month","day"] (aaC amP):=fsc
theorem sc_day_of:FnScope ["year","month","day","ahead"] ["year","month","day"] (aaC arZ):=fsc
theorem sc_year_of:FnScope ["day","year"] ["day"] (aaC anA):=fsc
theorem sc_date_of:FnScope ["day","year","month","rest"] ["day"] (aaC amN):=fsc
theorem asJ:FnScope ["day"] ["day"] (aaC am1):=fsc
theorem sc_kind_from:FnScope ["year","month","day","place"] ["year","month","day"] (aaC ah2):=fsc
theorem atE:FnScope ["year","month"] ["year","month"] (aaC am9):=fsc
theorem sc_parted:FnScope ["moment","time"] ["moment"] (aaC aqO):=fsc
theorem alJ:FnScope ["text"] ["text"] (aaC afH):=fsc
theorem amF:FnScope ["text"] ["text"] (aaC af8):=fsc
theorem aGE:FnScope ["mask","number"] ["mask","number"] (aaC aDH):=fsc
theorem sc_mask_of:FnScope ["numbers","mask","number"] ["numbers"] (aaC anI):=fsc
theorem alZ:FnScope ["mask"] ["mask"] (aaC agI):=fsc
theorem aq6:FnScope ["first","last","stride"] ["first","last","stride"] (aaC aj8):=fsc
theorem sc_read_number:FnScope ["text","low","high","number"] ["text","low","high"] (aaC afK):=fsc
theorem sc_read_run:FnScope ["text","low","high","ends"] ["text","low","high"] (aaC alB):=fsc
theorem sc_read_strided:FnScope ["run_text","stride_text","low","high","run","stride","last"] ["run_text","stride_text","low","high"] (aaC adY):=fsc
theorem sc_read_item:FnScope ["item","low","high","parts","run"] ["item","low","high"] (aaC ah0):=fsc
theorem sc_read_field:FnScope ["text","low","high","items","mask","place","item","told"] ["text","low","high"] (aaC agM):=fsc
theorem amE:FnScope ["day","first"] ["day","first"] (aaC agO):=fsc
theorem aq7:FnScope ["last"] ["last"] (aaC akF):=fsc
theorem sc_nearest_work:FnScope ["day","last","first","of_week"] ["day","last","first"] (aaC ad2):=fsc
theorem aoK:FnScope ["weekday","first"] ["weekday","first"] (aaC aiC):=fsc
theorem anZ:FnScope ["self","last","first"] ["self","last","first"] (aaC ah5):=fsc
theorem ae2:FnScope ["self","mask"] ["self","mask"] (aaC acO):=fsc
theorem ai5:FnScope ["self","last","first"] ["self","last","first"] (aaC aeN):=fsc
theorem ahG:FnScope ["self","back"] ["self","back"] (aaC aa7):=fsc
theorem aoM:FnScope ["self","last","first"] ["self","last","first"] (aaC aiB):=fsc
theorem ahX:FnScope ["self","day"] ["self","day"] (aaC adO):=fsc
theorem ao8:FnScope ["self","last","first"] ["self","last","first"] (aaC aiL):=fsc
theorem ahF:FnScope ["self","last","first"] ["self","last","first"] (aaC adN):=fsc
theorem ad0:FnScope ["self","mask"] ["self","mask"] (aaC acD):=fsc
theorem sc_Weekdays_days:FnScope ["self","last","first","weeks","week"] ["self","last","first"] (aaC adJ):=fsc
theorem ajB:FnScope ["self","weekday","many"] ["self","weekday","many"] (aaC aeC):=fsc
theorem sc_Nth_days:FnScope ["self","last","first","day"] ["self","last","first"] (aaC alF):=fsc
theorem ae7:FnScope ["self","weekday"] ["self","weekday"] (aaC acS):=fsc
theorem ajG:FnScope ["self","last","first"] ["self","last","first"] (aaC adZ):=fsc
theorem sc_any_days:FnScope ["marks","last","first","mask","mark"] ["marks","last","first"] (aaC aj3):=fsc
theorem sc_read_day_mark:FnScope ["item","back","day"] ["item"] (aaC adU):=fsc
theorem sc_read_weekday:FnScope ["text","number"] ["text"] (aaC ad5):=fsc
theorem sc_read_weekday_mark:FnScope ["item","weekday","parts","many"] ["item"] (aaC acC):=fsc
theorem sc_read_items:FnScope ["text","low","high","read_mark","items","mask","marks","place","item","plain","mark"] ["text","low","high","read_mark"] (aaC agH):=fsc
theorem sc_read_days:FnScope ["text","read"] ["text"] (aaC aiG):=fsc
theorem sc_read_weekdays:FnScope ["text","read","mask"] ["text"] (aaC adT):=fsc
theorem sc_month_at:FnScope ["kind","place","first"] ["kind"] (aaC alL):=fsc
theorem sc_times_of:FnScope ["hours","minutes","times","hour"] ["hours","minutes"] (aaC akJ):=fsc
theorem sc_days_by:FnScope ["days","weekdays","last","first","mask","marks"] ["days","weekdays","last","first"] (aaC anB):=fsc
theorem aiT:FnScope ["self","fields"] ["self","fields"] (aaC aeD):=fsc
theorem sc_Row_days_in:FnScope ["self","kind","month"] ["self","kind"] (aaC ae8):=fsc
theorem sc_read_word:FnScope ["word","place","bounds"] ["word","place"] (aaC aiE):=fsc
theorem asS:FnScope ["word","place"] ["word","place"] (aaC anK):=fsc
theorem sc_read_row:FnScope ["text","words"] ["text"] (aaC aj0):=fsc
theorem sc_Row_shut_by:FnScope ["self","moment","parts","date"] ["self","moment"] (aaC afE):=fsc
theorem amI:FnScope ["year","month"] ["year","month"] (aaC agK):=fsc
theorem aiP:FnScope ["year","month"] ["year","month"] (aaC aeE):=fsc
theorem sc_month_of:FnScope ["moment","date"] ["moment"] (aaC ajX):=fsc
theorem sc_minutes_on:FnScope ["days","minutes","place","times"] ["days"] (aaC af4):=fsc
theorem axG:FnScope ["mask"] ["mask"] (aaC aqZ):=fsc
theorem sc_last_shut_day:FnScope ["row","day","date","kind","later"] ["row","day"] (aaC adV):=fsc
theorem arH:FnScope ["row","moment","word"] ["row","moment","word"] (aaC aj7):=fsc
theorem ak7:FnScope ["stretches","first","last","told"] ["stretches","first","last","told"] (aaC afM):=fsc
theorem sc_paper_of:FnScope ["row","begin","end","stretches","moment","word","last"] ["row","begin","end"] (aaC akT):=fsc
theorem sc_Row_on_days:FnScope ["self","kind","days","last"] ["self","kind"] (aaC afL):=fsc
theorem alU:FnScope ["known","on_days","kind"] ["known","on_days","kind"] (aaC af7):=fsc
theorem sc_first_at:FnScope ["on_days","moment","month","known","turn","start","passed","rest"] ["on_days","moment"] (aaC ak6):=fsc
theorem sc_final_at:FnScope ["on_days","moment","month","known","turn","start","latest","rest"] ["on_days","moment"] (aaC ak9):=fsc
theorem sc_next_from:FnScope ["row","moment","found"] ["row","moment"] (aaC aiI):=fsc
theorem sc_last_to:FnScope ["row","moment","found"] ["row","moment"] (aaC am8):=fsc
theorem ai7:FnScope ["_law_script","_law_k"] ["_law_script","_law_k"] (aaC aeJ):=fsc
theorem sc__law_stir:FnScope ["_law_number","_law_first","_law_second"] ["_law_number"] (aaC aiJ):=fsc
theorem sc__law_digits:FnScope ["_law_cell","_law_sizes","_law_mixed","_law_found","_law_size"] ["_law_cell","_law_sizes","_law_mixed"] (aaC afD):=fsc
theorem az0:FnScope ["row"] ["row"] (aaC auM):=fsc
theorem sc__law_near:FnScope ["_law_day","_law_last","_law_first","_law_gap","_law_one"] ["_law_day","_law_last","_law_first"] (aaC aiN):=fsc
theorem sc__law_marked:FnScope ["_law_mark","_law_day","_law_last","_law_first","_law_word","_law_one","_law_many","_law_weekday_here"] ["_law_mark","_law_day","_law_last","_law_first"] (aaC afG):=fsc
theorem sc__law_any:FnScope ["_law_marks","_law_day","_law_last","_law_first","_law_mark"] ["_law_marks","_law_day","_law_last","_law_first"] (aaC akK):=fsc
theorem sc__law_day_held:FnScope ["_law_spec_here","_law_day","_law_last","_law_first","_law_days","_law_weekdays"] ["_law_spec_here","_law_day","_law_last","_law_first"] (aaC adL):=fsc
theorem sc__law_rare:FnScope ["_law_sort","_law_one","_law_later","_law_some"] ["_law_sort","_law_one","_law_later"] (aaC ah6):=fsc
theorem sc__law_never:FnScope ["_law_spec_here","_law_month","_law_ends","_law_last","_law_first","_law_day"] ["_law_spec_here"] (aaC agA):=fsc
theorem sc__law_spec:FnScope ["_law_cell","_law_mixed","_law_drawn","_law_seldom","_law_months","_law_k","_law_month","_law_days","_law_weekdays","_law_told","_law_text"] ["_law_cell","_law_mixed"] (aaC ah4):=fsc
theorem sc__law_right:FnScope ["_law_row","_law_due","_law_moment","_law_found","_law_told"] ["_law_row","_law_due","_law_moment"] (aaC agJ):=fsc
theorem sc_law:FnScope ["_law_script","_law_mixed","_law_k","_law_cell","_law_spec_here"] ["_law_script"] (aaC amM):=fsc
structure Fs(K:FG)(mg:Str->Option Value)(aI aB aE aF aH aD aA aG aJ aP aO aQ aK aR aL aM a_MONTH_LASTS a_BOUNDS a_BOUNDS_0 a_BOUNDS_1 a_BOUNDS_3:Addr)(t_ROUND_DAYS t_ROUND_YEARS t_LONG_PLACE t_DAY_MINUTES t_HOUR_MINUTES t_FIGURES t_MOST_STRIDE t_MOST_SIGNS t_MOST_ITEMS t_SATURDAY t_SUNDAY t_MOST_BACK t_MOST_DAY t_SUNDAY_TOO t_MOST_NTH t_MOST_MARKS t_ALL_WEEKDAYS t_LONG_LAST t_SHORT_YEAR t_MINUTE t_HOUR t_DAY t_MONTH t_WEEKDAY t_MOST_ROW_SIGNS t_NO_PLACE t_MOST_MONTHS t_MOST_MONTH_MINUTES t_KINDS:Tok):Prop where
 er:Cd K mg "Mark" aI
 ex:PySem.W.findIn K (.ref aI) "__init__"=some (some (.builtin "object.__init__"))
 aq:Cd K mg "Numbers" aB
 a3:PySem.W.findIn K (.ref aB) "mask"=some none
 ar:Cd K mg "Last" aE
 av:PySem.W.findIn K (.ref aE) "back"=some none
 aw:Cd K mg "Near" aF
 ax:PySem.W.findIn K (.ref aF) "day"=some none
 bb:Cd K mg "LastWork" aH
 dh:PySem.W.findIn K (.ref aH) "__init__"=some (some (.builtin "object.__init__"))
 an:Cd K mg "Weekdays" aD
 ay:PySem.W.findIn K (.ref aD) "mask"=some none
 az:Cd K mg "Nth" aA
 a4:PySem.W.findIn K (.ref aA) "weekday"=some none
 bc:PySem.W.findIn K (.ref aA) "many"=some none
 as:Cd K mg "LastOne" aG
 au:PySem.W.findIn K (.ref aG) "weekday"=some none
 ab:Cd K mg "Row" aJ
 ah:PySem.W.findIn K (.ref aJ) "minute_mask"=some none
 al:PySem.W.findIn K (.ref aJ) "hour_mask"=some none
 a0:PySem.W.findIn K (.ref aJ) "day_marks"=some none
 ai:PySem.W.findIn K (.ref aJ) "month_mask"=some none
 ao:PySem.W.findIn K (.ref aJ) "weekday_marks"=some none
 a1:PySem.W.findIn K (.ref aJ) "time_mask"=some none
 ap:mg "read_weekday_mark"=some (.ref aP)
 a2:mg "read_day_mark"=some (.ref aO)
 cc:mg "MONTH_LASTS"=some (.ref a_MONTH_LASTS)
 a5:∀H,SqT K H a_MONTH_LASTS (([31,28,31,30,31,30,31,31,30,31,30,31]:List Int).map V.int)
 a7:mg "ROUND_DAYS"=some (.int 146097 t_ROUND_DAYS)
 cd:mg "ROUND_YEARS"=some (.int 400 t_ROUND_YEARS)
 a8:mg "LONG_PLACE"=some (.int 12 t_LONG_PLACE)
 aa:mg "DAY_MINUTES"=some (.int 1440 t_DAY_MINUTES)
 ae:mg "HOUR_MINUTES"=some (.int 60 t_HOUR_MINUTES)
 d5:mg "FIGURES"=some (.str (Tx [48,49,50,51,52,53,54,55,56,57]) t_FIGURES)
 ce:mg "MOST_STRIDE"=some (.int 99 t_MOST_STRIDE)
 a9:mg "MOST_SIGNS"=some (.int 300 t_MOST_SIGNS)
 aj:mg "MOST_ITEMS"=some (.int 40 t_MOST_ITEMS)
 di:mg "SATURDAY"=some (.int 6 t_SATURDAY)
 bp:mg "SUNDAY"=some (.int 0 t_SUNDAY)
 c2:mg "MOST_BACK"=some (.int 30 t_MOST_BACK)
 bd:mg "MOST_DAY"=some (.int 31 t_MOST_DAY)
 ak:mg "SUNDAY_TOO"=some (.int 7 t_SUNDAY_TOO)
 dj:mg "MOST_NTH"=some (.int 5 t_MOST_NTH)
 co:mg "MOST_MARKS"=some (.int 20 t_MOST_MARKS)
 b2:mg "ALL_WEEKDAYS"=some (.int 127 t_ALL_WEEKDAYS)
 c3:mg "LONG_LAST"=some (.int 29 t_LONG_LAST)
 cp:mg "SHORT_YEAR"=some (.int 1 t_SHORT_YEAR)
 eh:mg "MINUTE"=some (.int 0 t_MINUTE)
 es:mg "HOUR"=some (.int 1 t_HOUR)
 dk:mg "DAY"=some (.int 2 t_DAY)
 en:mg "MONTH"=some (.int 3 t_MONTH)
 bk:mg "WEEKDAY"=some (.int 4 t_WEEKDAY)
 ei:mg "BOUNDS"=some (.ref a_BOUNDS)
 ba:KD K a_BOUNDS [(0,.ref a_BOUNDS_0),(1,.ref a_BOUNDS_1),(3,.ref a_BOUNDS_3)]
 be:∀H,SqT K H a_BOUNDS_0 (([0,59]:List Int).map V.int)
 bf:∀H,SqT K H a_BOUNDS_1 (([0,23]:List Int).map V.int)
 bg:∀H,SqT K H a_BOUNDS_3 (([1,12]:List Int).map V.int)
 bq:mg "MOST_ROW_SIGNS"=some (.int 1600 t_MOST_ROW_SIGNS)
 dl:mg "NO_PLACE"=some (.int 5 t_NO_PLACE)
 a6:mg "MOST_MONTHS"=some (.int 492 t_MOST_MONTHS)
 bh:mg "MOST_MONTH_MINUTES"=some (.int 44640 t_MOST_MONTH_MINUTES)
 eo:mg "KINDS"=some (.int 91 t_KINDS)
 cq:Host K mg aQ aK aM
 dm:Host K mg aR aL aM
 dn:mg "int"=none
 ad:mg "isinstance"=none
 cr:mg "bool"=none
 ac:mg "range"=none
 et:mg "sum"=none
 dp:mg "all"=none
 bl:mg "list"=none
 af:mg "len"=none
 ag:mg "str"=none
 am:mg "enumerate"=none
 br:mg "min"=none
 bs:mg "max"=none
 eu:mg "abs"=none
 ev:mg "set"=none
 ej:mg "sorted"=none
 ep:mg "tuple"=none
 d6:Fn K mg "is_long" amW ["year"]
 bm:Fn K mg "multiples_before" acK ["year","step"]
 cf:Fn K mg "days_before" afF ["year"]
 d7:Fn K mg "last_of" am7 ["year","month"]
 dq:Fn K mg "is_whole" ajU ["thing"]
 d8:Fn K mg "is_date" amP ["year","month","day"]
 ek:Fn K mg "day_of" arZ ["year","month","day"]
 d9:Fn K mg "year_of" anA ["day"]
 ea:Fn K mg "date_of" amN ["day"]
 eb:Fn K mg "weekday" am1 ["day"]
 c4:Fn K mg "kind_from" ah2 ["year","month","day"]
 ec:Fn K mg "kind_of" am9 ["year","month"]
 el:Fn K mg "parted" aqO ["moment"]
 cg:Fn K mg "all_figures" afH ["text"]
 cs:Fn K mg "is_written" af8 ["text"]
 ew:Fn K mg "has" aDH ["mask","number"]
 ed:Fn K mg "mask_of" anI ["numbers"]
 ct:Fn K mg "numbers_in" agI ["mask"]
 dr:Fn K mg "run_mask" aj8 ["first","last","stride"]
 ch:Fn K mg "read_number" afK ["text","low","high"]
 ds:Fn K mg "read_run" alB ["text","low","high"]
 b3:Fn K mg "read_strided" adY ["run_text","stride_text","low","high"]
 c5:Fn K mg "read_item" ah0 ["item","low","high"]
 cu:Fn K mg "read_field" agM ["text","low","high"]
 cv:Fn K mg "weekday_at" agO ["day","first"]
 dt:Fn K mg "all_days" akF ["last"]
 b4:Fn K mg "nearest_work" ad2 ["day","last","first"]
 c6:Fn K mg "first_one" aiC ["weekday","first"]
 c7:FnM K aI "days" "Mark.days" ah5 ["self","last","first"]
 bn:FnM K aB "__init__" "Numbers.__init__" acO ["self","mask"]
 b5:FnM K aB "days" "Numbers.days" aeN ["self","last","first"]
 bt:FnMD K aE "__init__" "Last.__init__" aa7 ["self","back"] [.int 0]
 c8:FnM K aE "days" "Last.days" aiB ["self","last","first"]
 bu:FnM K aF "__init__" "Near.__init__" adO ["self","day"]
 c9:FnM K aF "days" "Near.days" aiL ["self","last","first"]
 bv:FnM K aH "days" "LastWork.days" adN ["self","last","first"]
 bi:FnM K aD "__init__" "Weekdays.__init__" acD ["self","mask"]
 bw:FnM K aD "days" "Weekdays.days" adJ ["self","last","first"]
 b6:FnM K aA "__init__" "Nth.__init__" aeC ["self","weekday","many"]
 du:FnM K aA "days" "Nth.days" alF ["self","last","first"]
 bo:FnM K aG "__init__" "LastOne.__init__" acS ["self","weekday"]
 b7:FnM K aG "days" "LastOne.days" adZ ["self","last","first"]
 dv:Fn K mg "any_days" aj3 ["marks","last","first"]
 bx:Fn K mg "read_day_mark" adU ["item"]
 b8:Fn K mg "read_weekday" ad5 ["text"]
 bj:Fn K mg "read_weekday_mark" acC ["item"]
 cw:Fn K mg "read_items" agH ["text","low","high","read_mark"]
 da:Fn K mg "read_days" aiG ["text"]
 bz:Fn K mg "read_weekdays" adT ["text"]
 dw:Fn K mg "month_at" alL ["kind"]
 dx:Fn K mg "times_of" akJ ["hours","minutes"]
 ee:Fn K mg "days_by" anB ["days","weekdays","last","first"]
 b9:FnM K aJ "__init__" "Row.__init__" aeD ["self","fields"]
 ci:FnM K aJ "days_in" "Row.days_in" ae8 ["self","kind"]
 db:Fn K mg "read_word" aiE ["word","place"]
 ef:Fn K mg "read_at" anK ["word","place"]
 dy:Fn K mg "read_row" aj0 ["text"]
 cj:FnM K aJ "shut_by" "Row.shut_by" afE ["self","moment"]
 cx:Fn K mg "next_month" agK ["year","month"]
 ca:Fn K mg "month_before" aeE ["year","month"]
 dz:Fn K mg "month_of" ajX ["moment"]
 cy:Fn K mg "minutes_on" af4 ["days"]
 em:Fn K mg "lowest" aqZ ["mask"]
 b0:Fn K mg "last_shut_day" adV ["row","day"]
 d0:Fn K mg "shut_end" aj7 ["row","moment","word"]
 ck:Fn K mg "add_stretch" afM ["stretches","first","last","told"]
 d1:Fn K mg "paper_of" akT ["row","begin","end"]
 cl:FnM K aJ "on_days" "Row.on_days" afL ["self","kind"]
 cz:Fn K mg "minutes_by" af7 ["known","on_days","kind"]
 d2:Fn K mg "first_at" ak6 ["on_days","moment"]
 d3:Fn K mg "final_at" ak9 ["on_days","moment"]
 dc:FnC K mg "next_from" aiI ["row","moment"] aQ
 eg:FnC K mg "last_to" am8 ["row","moment"] aR
 cb:Fn K mg "_law_cell_at" aeJ ["_law_script","_law_k"]
 dd:Fn K mg "_law_stir" aiJ ["_law_number"]
 cm:Fn K mg "_law_digits" afD ["_law_cell","_law_sizes","_law_mixed"]
 eq:Fn K mg "never" auM ["row"]
 de:Fn K mg "_law_near" aiN ["_law_day","_law_last","_law_first"]
 cn:Fn K mg "_law_marked" afG ["_law_mark","_law_day","_law_last","_law_first"]
 d4:Fn K mg "_law_any" akK ["_law_marks","_law_day","_law_last","_law_first"]
 b1:Fn K mg "_law_day_held" adL ["_law_spec_here","_law_day","_law_last","_law_first"]
 df:Fn K mg "_law_rare" ah6 ["_law_sort","_law_one","_law_later"]
 c0:Fn K mg "_law_never" agA ["_law_spec_here"]
 dg:Fn K mg "_law_spec" ah4 ["_law_cell","_law_mixed"]
 c1:Fn K mg "_law_right" agJ ["_law_row","_law_due","_law_moment"]
section
set_option maxHeartbeats 4000000
variable{P:Program}{w:World}{K:FG}{mg:Str->Option Value}{base:Heap}{aI aB aE aF aH aD aA aG aJ aP aO aQ aK aR aL aM a_MONTH_LASTS a_BOUNDS a_BOUNDS_0 a_BOUNDS_1 a_BOUNDS_3:Addr}{t_ROUND_DAYS t_ROUND_YEARS t_LONG_PLACE t_DAY_MINUTES t_HOUR_MINUTES t_FIGURES t_MOST_STRIDE t_MOST_SIGNS t_MOST_ITEMS t_SATURDAY t_SUNDAY t_MOST_BACK t_MOST_DAY t_SUNDAY_TOO t_MOST_NTH t_MOST_MARKS t_ALL_WEEKDAYS t_LONG_LAST t_SHORT_YEAR t_MINUTE t_HOUR t_DAY t_MONTH t_WEEKDAY t_MOST_ROW_SIGNS t_NO_PLACE t_MOST_MONTHS t_MOST_MONTH_MINUTES t_KINDS:Tok}(ZZ:Fs K mg aI aB aE aF aH aD aA aG aJ aP aO aQ aK aR aL aM a_MONTH_LASTS a_BOUNDS a_BOUNDS_0 a_BOUNDS_1 a_BOUNDS_3 t_ROUND_DAYS t_ROUND_YEARS t_LONG_PLACE t_DAY_MINUTES t_HOUR_MINUTES t_FIGURES t_MOST_STRIDE t_MOST_SIGNS t_MOST_ITEMS t_SATURDAY t_SUNDAY t_MOST_BACK t_MOST_DAY t_SUNDAY_TOO t_MOST_NTH t_MOST_MARKS t_ALL_WEEKDAYS t_LONG_LAST t_SHORT_YEAR t_MINUTE t_HOUR t_DAY t_MONTH t_WEEKDAY t_MOST_ROW_SIGNS t_NO_PLACE t_MOST_MONTHS t_MOST_MONTH_MINUTES t_KINDS)
include ZZ
theorem akR:Df P w K mg base "is_long" 1 ["year"] (asP K):=by
 refine ZZ.d6.dfs atQ (fun vs H Q E h=>?_) (fun f cdv A outer s H vs Q E hr h=>?_)
 ·obtain⟨_,rfl,_⟩:=h
  rfl
 obtain⟨y,rfl,q⟩:=h
 refine⟨_,(ss1 (aaH (aqR (acT oEq (eOp ab3 (v_ 0) eI) eI) (aiX (eOr (acT oNe (eOp ab3 (v_ 0) eI) eI) (aiX (acT oEq (eOp ab3 (v_ 0) eI) eI))))))),?_⟩
 refine⟨_,rfl,_,_,rfl,rfl,(by show (0:Int)<4;decide),rfl,_,rfl,?_⟩
 refine ifI (fun c1=>?_) (fun c1=>?_)
 ·refine⟨_,rfl,_,_,rfl,rfl,(by show (0:Int)<100;decide),rfl,_,rfl,?_⟩
  refine aCS (fun c2=>?_) (fun c2=>?_)
  ·rw[aqS ⟨c1,.inl c2⟩] at q
   exact q
  ·refine⟨_,rfl,_,_,rfl,rfl,(by show (0:Int)<400;decide),rfl,?_⟩
   by_cases c3:y%400=0
   ·rw[aqS ⟨c1,.inr c3⟩] at q
    show Q (.bl (decide (V.int (y%400)=V.int 0))) H
    rw[eC (int_eq.mpr c3)]
    exact q
   ·rw[ap3 (by omega)] at q
    show Q (.bl (decide (V.int (y%400)=V.int 0))) H
    rw[eF fun e=>c3 (int_eq.mp e)]
    exact q
 ·rw[ap3 (by omega)] at q
  exact q
theorem abL:Df P w K mg base "multiples_before" 1 ["year","step"] (ae1 K):=by
 refine ZZ.bm.dfs ae0 (fun vs H Q E h=>?_) (fun f cdv A outer s H vs Q E hr h=>?_)
 ·obtain⟨_,_,rfl,_⟩:=h
  rfl
 obtain⟨y,z,rfl,hz,q⟩:=h
 refine⟨_,(ss1 (aaH (eOp ajI (eOp abA (eOp aa2 (v_ 0) (v_ 1)) eI) (v_ 1)))),?_⟩
 refine⟨_,rfl,_,rfl,_,_,rfl,rfl,_,_,rfl,rfl,_,rfl,_,_,rfl,rfl,hz,?_⟩
 exact q
theorem acP:Df P w K mg base "days_before" 2 ["year"] (alA K):=by
 refine ZZ.cf.dfs sc_days_before (fun vs H Q E h=>?_) (fun f cdv A outer s H vs Q E hr h=>?_)
 ·obtain⟨_,rfl,_⟩:=h
  rfl
 obtain⟨y,rfl,q⟩:=h
 refine⟨_,(ssC (aaJ 1 (eOp aa2 (eOp abA (eD (abL ZZ) hr (aC (v_ 0) (aC eI aN))) (eD (abL ZZ) hr (aC (v_ 0) (aC eI aN)))) (eD (abL ZZ) hr (aC (v_ 0) (aC eI aN)))) sc_days_before.nd)
   (ss1 (aaH (eOp aa2 (eOp af3 eI (v_ 0)) (v_ 1))))),?_⟩
 refine⟨_,rfl,_,_,rfl,⟨by decide,by decide⟩,_,rfl,_,_,rfl,⟨by decide,by decide⟩,_,_,rfl,rfl,_,rfl,_,_,rfl,⟨by decide,by decide⟩,_,_,rfl,rfl,?_⟩
 refine⟨_,rfl,_,_,rfl,rfl,.inl ⟨by decide,by decide⟩,_,rfl,_,_,rfl,rfl,?_⟩
 exact q
theorem acI:Df P w K mg base "last_of" 2 ["year","month"] (auE K):=by
 refine ZZ.d7.dfs atM (fun vs H Q E h=>?_) (fun f cdv A outer s H vs Q E hr h=>?_)
 ·obtain⟨_,_,rfl,_⟩:=h
  rfl
 obtain⟨y,m,rfl,⟨h1,h2⟩,q⟩:=h
 refine⟨_,(ssC (sIf (tW (anN (tCm oEq (v_ 1) eI) (ah8 (tVa (eD (akR ZZ) hr (aC (v_ 0) aN)))))) (ss1 (aaH eI)) ssN)
   (ss1 (aaH (eIx xT (eGl (v:=.ref a_MONTH_LASTS) ZZ.cc rfl) (eOp abA (v_ 1) eI))))),?_⟩
 refine⟨_,rfl,rfl,_,rfl,?_⟩
 refine ifI (fun c1=>?_) (fun c1=>?_)
 ·refine⟨_,rfl,_,rfl,_,rfl,?_⟩
  by_cases c2:abC y=true
  ·have e:aaD y m=29:=by unfold aaD aaQ;rw[if_pos c1,if_pos c2];rfl
   rw[e] at q
   show if abC y=true then _ else _
   rw[if_pos c2]
   exact q
  ·have e:aaD y m=lasts.getD (m-1).toNat 0:=by unfold aaD aaQ;rw[if_pos c1,if_neg c2,c1];rfl
   rw[e] at q
   show if abC y=true then _ else _
   rw[if_neg c2]
   refine⟨_,rfl,_,_,rfl,rfl,a_MONTH_LASTS,_,_,_,rfl,rfl,ZZ.a5 H,akV h1 h2,?_⟩
   exact q
 ·have e:aaD y m=lasts.getD (m-1).toNat 0:=by unfold aaD;rw[if_neg c1]
  rw[e] at q
  refine aa1 ?_
  refine⟨_,rfl,_,_,rfl,rfl,a_MONTH_LASTS,_,_,_,rfl,rfl,ZZ.a5 H,akV h1 h2,?_⟩
  exact q
theorem ad1:Df P w K mg base "is_whole" 1 ["thing"] (aqV K):=by
 refine ZZ.dq.dfs aq8 (fun vs H Q E h=>?_) (fun f cdv A outer s H vs Q E hr h=>?_)
 ·obtain⟨_,rfl,_⟩:=h
  rfl
 obtain⟨i,rfl,q⟩:=h
 refine⟨_,(ss1 (aaH (aqR (eCB cII ZZ.ad PyProof.Rows.boot_isinstance (aC (v_ 0) (aC (eTy ZZ.dn PyProof.Rows.boot_int) aN))) (aiX (eNot (eCB cIB ZZ.ad PyProof.Rows.boot_isinstance (aC (v_ 0) (aC (eTy ZZ.cr PyProof.Rows.boot_bool) aN)))))))),?_⟩
 refine⟨_,rfl,_,rfl,_,rfl,?_⟩
 refine abF ?_
 refine⟨_,rfl,_,rfl,_,rfl,?_⟩
 exact q
theorem atB:Df P w K mg base "is_date" 3 ["year","month","day"] (asI K):=by
 refine ZZ.d8.dfs asQ (fun vs H Q E h=>?_) (fun f cdv A outer s H vs Q E hr h=>?_)
 ·obtain⟨_,_,_,rfl,_⟩:=h
  rfl
 obtain⟨y,m,k,rfl,⟨hm,k1,k2⟩,q⟩:=h
 refine⟨_,(ssC (sIf (tNo (tW (anN (tVa (eD (ad1 ZZ) hr (aC (v_ 0) aN))) (anN (tVa (eD (ad1 ZZ) hr (aC (v_ 1) aN))) (ah8 (tVa (eD (ad1 ZZ) hr (aC (v_ 2) aN)))))))) (ss1 (aaH eB)) ssN)
   (ss1 (aaH (aqR (eCh oLe oLe eI (v_ 1) eI) (aiX (eCh oLe oLe eI (v_ 2) (eD (acI ZZ) hr (aC (v_ 0) (aC (v_ 1) aN))))))))),?_⟩
 refine⟨_,rfl,_,rfl,_,rfl,abF ⟨_,rfl,_,rfl,_,rfl,abF ⟨_,rfl,_,rfl,_,rfl,aa1 ?_⟩⟩⟩
 refine⟨_,rfl,_,_,rfl,rfl,_,rfl,?_⟩
 rw[eC hm.1]
 refine abF ⟨_,_,rfl,rfl,_,rfl,?_⟩
 rw[eC hm.2]
 refine abF ⟨_,rfl,_,_,rfl,rfl,_,rfl,?_⟩
 rw[eC k1]
 refine abF ⟨_,rfl,_,rfl,_,_,rfl,hm,_,_,rfl,rfl,?_⟩
 show Q (.bl (decide (k<=aaD y m))) H
 rw[eC k2]
 exact q
theorem ahS:Df P w K mg base "day_of" 4 ["year","month","day"] (awL K):=by
 refine ZZ.ek.dfs sc_day_of (fun vs H Q E h=>?_) (fun f cdv A outer s H vs Q E hr h=>?_)
 ·obtain⟨_,_,_,rfl,_⟩:=h
  rfl
 obtain⟨y,m,k,rfl,hv,q⟩:=h
 refine⟨_,(ssC (sIf (tNo (tVa (eD (atB ZZ) hr (aC (v_ 0) (aC (v_ 1) (aC (v_ 2) aN)))))) (ss1 an9) ssN)
   (ssC (aaJ 3 (eCB cSum ZZ.et PyProof.Rows.boot_sum (aC (alM ["year"] [0] (iR2 ZZ.ac (aC eI (aC (v_ 1) aN))) (fun _ _ _ _ _ _=>fsN) (fun _ _ _ _ _ _=>(eD (acI ZZ) hr (aC (v_ 1) (aC (v_ 0) aN))))) aN)) sc_day_of.nd)
   (ss1 (aaH (eOp abA (eOp aa2 (eOp aa2 (eD (acP ZZ) hr (aC (v_ 0) aN)) (v_ 3)) (v_ 2)) eI))))),?_⟩
 obtain⟨⟨hm1,hm2⟩,hk⟩:=id hv
 refine⟨_,rfl,_,rfl,_,rfl,_,_,_,rfl,hv,_,rfl,aa1 ?_⟩
 refine⟨_,rfl,_,_,rfl,⟨by decide,by decide,by omega,by omega⟩,adG (fun i l=>l=(List.range i).map fun i:Nat=>V.int (aaD y (1+(i:Int)))) (by show (m-1).toNat<=sizeLine;rw[dZ];omega) rfl ?_ ?_⟩
 ·intro i l D H2 E' F' hi hR hD s2 hl hE hF
  subst hR
  exact⟨_,rfl,_,rfl,_,_,rfl,⟨by omega,by omega⟩,hE _ _ (Same.refl _) (amL _ _).symm⟩
 ·intro D H2 l hR hD s2 hl
  subst hR
  refine⟨D,(List.range (m-1).toNat).map fun i:Nat=>aaD y (1+(i:Int)),rfl,SqL.of (by rw[hl,cQ];rfl),?_⟩
  refine⟨_,rfl,_,rfl,_,rfl,_,_,rfl,rfl,_,rfl,_,_,rfl,rfl,_,_,rfl,rfl,?_⟩
  have e:((List.range (m-1).toNat).map fun i:Nat=>aaD y (1+(i:Int))).sum=ahead y m:=auT y _
  rw[e]
  exact q _ s2
theorem atA:Df P w K mg base "year_of" 3 ["day"] (asL K):=by
 refine ZZ.d9.dfs sc_year_of (fun vs H Q E h=>?_) (fun f cdv A outer s H vs Q E hr h=>?_)
 ·obtain⟨_,rfl,_⟩:=h
  rfl
 obtain⟨d,rfl,q⟩:=h
 refine⟨_,(ssC (aaJ 1 (eOp aa2 (eOp af3 (eOp ajI (v_ 0) (eGl (v:=.int 146097) ZZ.a7 ⟨_,rfl⟩)) (eGl (v:=.int 400) ZZ.cd ⟨_,rfl⟩)) (eOp ajI (eOp ab3 (v_ 0) (eGl (v:=.int 146097) ZZ.a7 ⟨_,rfl⟩)) eI)) sc_year_of.nd)
   (ssC (sWh (tCm oLe (eD (acP ZZ) hr (aC (eOp aa2 (v_ 1) eI) aN)) (v_ 0)) (ss1 (aaJ 1 (eOp aa2 (v_ 1) eI) sc_year_of.nd)) PassesOwn.never)
   (ss1 (aaH (v_ 1))))),?_⟩
 refine⟨_,rfl,_,_,rfl,rfl,⟨by decide,by decide⟩,_,_,rfl,rfl,.inr ⟨by decide,by decide⟩,_,rfl,_,_,rfl,rfl,(by show (0:Int)<146097;decide),_,_,rfl,rfl,⟨by decide,by decide⟩,_,_,rfl,rfl,?_⟩
 refine ag5 (fun σ H'=>H'=H/\∃y:Int,σ=[some (.int d),some (.int y)]/\db y<=d) (fun σ _=>match σ with | [_,some (.int y)]=>(d-db y).toNat | _=>0) ?_ ?_
 ·refine⟨rfl,_,rfl,?_⟩
  have h1:=aGB (q:=d / 146097) (z:=d%146097 / 366) (by omega)
  omega
 ·rintro σ H' ⟨rfl,y,rfl,hy⟩
  refine⟨_,rfl,_,_,rfl,rfl,_,rfl,_,rfl,_,_,rfl,rfl,_,rfl,?_⟩
  refine ifD (fun c=>?_) (fun c=>?_)
  ·refine⟨_,fun _ _ h=>h,?_⟩
   refine⟨_,rfl,_,_,rfl,rfl,?_⟩
   have h1:=ajS y
   have h2:=ar7 y
   exact⟨_,(by show (d-db (y+1)).toNat<(d-db y).toNat;omega),rfl,rfl,_,rfl,c⟩
  ·exact⟨_,rfl,q y hy (by omega)⟩
theorem afS:Df P w K mg base "date_of" 4 ["day"] (as6 K):=by
 refine ZZ.ea.dfs sc_date_of (fun vs H Q E h=>?_) (fun f cdv A outer s H vs Q E hr h=>?_)
 ·obtain⟨_,rfl,_⟩:=h
  rfl
 obtain⟨d,rfl,q⟩:=h
 refine⟨_,(ssC (aaJ 1 (eD (atA ZZ) hr (aC (v_ 0) aN)) sc_date_of.nd)
   (ssC (aaJ 2 eI sc_date_of.nd)
   (ssC (aaJ 3 (eOp abA (v_ 0) (eD (acP ZZ) hr (aC (v_ 1) aN))) sc_date_of.nd)
   (ssC (sWh (tCm oGe (v_ 3) (eD (acI ZZ) hr (aC (v_ 1) (aC (v_ 2) aN)))) (ssC (aaJ 3 (eOp abA (v_ 3) (eD (acI ZZ) hr (aC (v_ 1) (aC (v_ 2) aN)))) sc_date_of.nd)
   (ss1 (aaJ 2 (eOp aa2 (v_ 2) eI) sc_date_of.nd))) PassesOwn.never)
   (ss1 (aaH (abN (aC (v_ 1) (aC (v_ 2) (aC (eOp aa2 (v_ 3) eI) aN)))))))))),?_⟩
 refine⟨_,rfl,_,rfl,fun y hy1 hy2=>?_⟩
 refine⟨_,rfl,_,rfl,_,rfl,_,_,rfl,rfl,?_⟩
 refine ag5 (fun σ H'=>H'=H/\∃m r:Int,σ=[some (.int d),some (.int y),some (.int m),some (.int r)]/\(1<=m/\m<=12)/\0<=r/\db y+ahead y m+r=d) (fun σ _=>match σ with | [_,_,some (.int m),_]=>(13-m).toNat | _=>0) ?_ ?_
 ·have a4:ahead y 1=0:=rfl
  exact⟨rfl,1,_,rfl,⟨by decide,by decide⟩,by omega,by omega⟩
 ·rintro σ H' ⟨rfl,m,r,rfl,hm,hr0,he⟩
  refine⟨_,rfl,_,rfl,_,rfl,_,_,rfl,hm,_,_,rfl,rfl,_,rfl,?_⟩
  have a1:=adA (y:=y) hm.1
  refine ifD (fun c=>?_) (fun c=>?_)
  ·have a2:=akS y
   have a3:=ajS y
   have hm12:m<12:=by
    rcases Int.lt_or_le m 12 with z | z
    ·exact z
    ·have e12:m=12:=by omega
     subst e12
     have a5:ahead y (12+1)=ahead y 13:=rfl
     omega
   refine⟨_,fun _ _ h=>h,?_⟩
   refine⟨_,rfl,_,rfl,_,rfl,_,_,rfl,hm,_,_,rfl,rfl,?_⟩
   refine⟨_,rfl,_,_,rfl,rfl,?_⟩
   exact⟨_,(by show (13-(m+1)).toNat<(13-m).toNat;omega),rfl,rfl,m+1,r-aaD y m,rfl,⟨by omega,by omega⟩,by omega,by omega⟩
  ·refine⟨_,rfl,_,rfl,_,rfl,_,_,rfl,rfl,(zL 3),fun p hp=>?_⟩
   exact q y m (r+1) p _ ⟨hm,by omega,by omega⟩ (by unfold adW;omega) (aaB hp _) aaA
theorem auD:Df P w K mg base "weekday" 1 ["day"] (at0 K):=by
 refine ZZ.eb.dfs asJ (fun vs H Q E h=>?_) (fun f cdv A outer s H vs Q E hr h=>?_)
 ·obtain⟨_,rfl,_⟩:=h
  rfl
 obtain⟨d,rfl,q⟩:=h
 refine⟨_,(ss1 (aaH (eOp ab3 (eOp aa2 (v_ 0) eI) eI))),?_⟩
 exact⟨_,rfl,_,_,rfl,rfl,_,_,rfl,rfl,(by show (0:Int)<7;decide),q⟩
theorem aoX:Df P w K mg base "kind_from" 2 ["year","month","day"] (ao7 K):=by
 refine ZZ.c4.dfs sc_kind_from (fun vs H Q E h=>?_) (fun f cdv A outer s H vs Q E hr h=>?_)
 ·obtain⟨_,_,_,rfl,_⟩:=h
  rfl
 obtain⟨y,m,d,rfl,q⟩:=h
 refine⟨_,(ssC (aaJ 3 (eIf (tW (anN (tCm oEq (v_ 1) eI) (ah8 (tVa (eD (akR ZZ) hr (aC (v_ 0) aN)))))) (eGl (v:=.int 12) ZZ.a8 ⟨_,rfl⟩) (eOp abA (v_ 1) eI)) sc_kind_from.nd)
   (ss1 (aaH (eOp aa2 (eOp af3 eI (v_ 3)) (eD (auD ZZ) hr (aC (v_ 2) aN)))))),?_⟩
 have q':∀pl:Int,plc y m=pl->Q (.int (7*pl+(d+6)%7)) H:=fun pl e=>by
  rw[←e]
  exact q
 refine⟨_,rfl,rfl,_,rfl,?_⟩
 refine ifI (fun c1=>⟨_,rfl,_,rfl,_,rfl,?_⟩) (fun c1=>aa1 ?_)
 ·by_cases c2:abC y=true
  ·show if abC y=true then _ else _
   rw[if_pos c2]
   exact⟨_,rfl,_,_,rfl,rfl,.inl ⟨by decide,by decide⟩,_,rfl,_,rfl,_,_,rfl,rfl,q' _ (by unfold plc;rw[if_pos ⟨c1,c2⟩])⟩
  ·show if abC y=true then _ else _
   rw[if_neg c2]
   exact⟨_,rfl,_,_,rfl,rfl,_,rfl,_,_,rfl,rfl,.inl ⟨by decide,by decide⟩,_,rfl,_,rfl,_,_,rfl,rfl,q' _ (by unfold plc;rw[if_neg fun z=>c2 z.2])⟩
 ·exact⟨_,rfl,_,_,rfl,rfl,_,rfl,_,_,rfl,rfl,.inl ⟨by decide,by decide⟩,_,rfl,_,rfl,_,_,rfl,rfl,q' _ (by unfold plc;rw[if_neg fun z=>c1 z.1])⟩
theorem adI:Df P w K mg base "kind_of" 5 ["year","month"] (at7 K):=by
 refine ZZ.ec.dfs atE (fun vs H Q E h=>?_) (fun f cdv A outer s H vs Q E hr h=>?_)
 ·obtain⟨_,_,rfl,_⟩:=h
  rfl
 obtain⟨y,m,rfl,hm,q⟩:=h
 refine⟨_,(ss1 (aaH (eD (aoX ZZ) hr (aC (v_ 0) (aC (v_ 1) (aC (eD (ahS ZZ) hr (aC (v_ 0) (aC (v_ 1) (aC eI aN)))) aN)))))),?_⟩
 have hl1:1<=aaD y m:=by have:=amZ (y:=y) hm.1 hm.2;omega
 have e6:db y+ahead y m+1-1+6=db y+ahead y m+6:=by omega
 refine⟨_,rfl,_,rfl,_,rfl,_,rfl,_,_,_,rfl,⟨hm,by decide,hl1⟩,fun H' s'=>⟨_,_,_,rfl,?_⟩⟩
 rw[e6]
 exact q H' s'
theorem awR:Df P w K mg base "parted" 1 ["moment"] (awJ K):=by
 refine ZZ.el.dfs sc_parted (fun vs H Q E h=>?_) (fun f cdv A outer s H vs Q E hr h=>?_)
 ·obtain⟨_,rfl,_⟩:=h
  rfl
 obtain⟨mo,rfl,q⟩:=h
 refine⟨_,(ssC (aaJ 1 (eOp ab3 (v_ 0) (eGl (v:=.int 1440) ZZ.aa ⟨_,rfl⟩)) sc_parted.nd)
   (ss1 (aaH (abN (aC (eOp ajI (v_ 0) (eGl (v:=.int 1440) ZZ.aa ⟨_,rfl⟩)) (aC (eOp ajI (v_ 1) (eGl (v:=.int 60) ZZ.ae ⟨_,rfl⟩)) (aC (eOp ab3 (v_ 1) (eGl (v:=.int 60) ZZ.ae ⟨_,rfl⟩)) aN))))))),?_⟩
 refine⟨_,rfl,_,_,rfl,rfl,(by show (0:Int)<1440;decide),?_⟩
 exact⟨_,rfl,_,_,rfl,rfl,⟨by decide,by decide⟩,_,rfl,_,_,rfl,rfl,⟨by decide,by decide⟩,_,rfl,_,_,rfl,rfl,(by show (0:Int)<60;decide),(zL 3),fun p hp=>q p _ (aaB hp _) aaA⟩
theorem akD:Df P w K mg base "all_figures" 1 ["text"] (aj6 K):=by
 refine ZZ.cg.dfs alJ (fun vs H Q E h=>?_) (fun f cdv A outer s H vs Q E hr h=>?_)
 ·obtain⟨_,rfl,_⟩:=h
  rfl
 obtain⟨l,rfl,hl,q⟩:=h
 refine⟨_,(ss1 (aaH (aqR (acT oNe (v_ 0) (eSx [])) (aiX (eCB aQF ZZ.dp boot_all (aC (alM [] [] (iX (v_ 0)) (fun _ _ _ _ _ _=>fsN) (fun _ _ _ _ _ _=>(acT oInX (v_ 0) (eGl (v:=.str (Tx [48,49,50,51,52,53,54,55,56,57])) ZZ.d5 ⟨_,rfl⟩)))) aN)))))),?_⟩
 refine⟨_,rfl,rfl,_,rfl,?_⟩
 rw[ay2 l []]
 by_cases c:l=[]
 ·rw[eC c]
  have e:ar3 l=false:=by unfold ar3;rw[eC c];rfl
  rw[e] at q
  exact aa1 (q H (Same.refl H))
 ·rw[eF c]
  have e:ar3 l=l.all agR:=by unfold ar3;rw[eF c];rfl
  rw[e] at q
  refine abF ⟨_,rfl,Tx l,rfl,aAM (xs:=l) (fun i z=>z=((l.take i).map agR).map V.bl) (by rw[dZ];omega) rfl ?_ ?_⟩
  ·intro i ch z D H2 E' F' hv hR hD s2 hz hE hF
   subst hR
   refine⟨_,rfl,ch,aEJ,rfl,rfl,?_⟩
   rw[ay4]
   exact hE _ _ (Same.refl _) (by rw[b7,hv,bH,bH];rfl)
  ·intro D H2 z hR hD s2 hz
   subst hR
   rw[cF] at hz
   refine⟨D,l.map agR,rfl,SqL.of hz,?_⟩
   rw[List.all_map]
   exact q H2 s2
theorem afA:Df P w K mg base "is_written" 2 ["text"] (alT K):=by
 refine ZZ.cs.dfs amF (fun vs H Q E h=>?_) (fun f cdv A outer s H vs Q E hr h=>?_)
 ·obtain⟨_,rfl,_⟩:=h
  rfl
 obtain⟨l,rfl,hl,q⟩:=h
 refine⟨_,(ss1 (aaH (aqR (eD (akD ZZ) hr (aC (v_ 0) aN)) (aiX (eOr (acT oEq (v_ 0) (eSx [48])) (aiX (acT oNe (eIx xX (v_ 0) eI) (eSx [48])))))))),?_⟩
 refine⟨_,rfl,l,rfl,hl,fun H1 s1=>⟨_,rfl,?_⟩⟩
 refine if2 (fun c=>?_) (fun c=>?_)
 ·have hne:l≠[]:=fun e=>by
   unfold ar3 at c
   rw[eC e] at c
   exact absurd (show false=true from c) bB
  refine⟨_,rfl,rfl,_,rfl,?_⟩
  rw[ay2 l [48]]
  by_cases c2:l=[48]
  ·rw[eC c2]
   have e:isW l=true:=by unfold isW;rw[c,eC c2];rfl
   rw[e] at q
   exact abF (q H1 s1)
  ·rw[eF c2]
   obtain⟨x,r,rfl⟩:∃x r,l=x::r:=by
    cases l with
    |nil=>exact absurd rfl hne
    |cons x r=>exact⟨x,r,rfl⟩
   refine aa1 ⟨_,rfl,x::r,0,x,rfl,rfl,(by rw[dZ];omega),(show atI (x::r) ((0:Nat):Int)=some x from aeR rfl),rfl,?_⟩
   rw[ay2 [x] [48]]
   have e:isW (x::r)= !decide ([x]=[48]):=by
    unfold isW
    rw[c,eF c2]
    show (!decide (x=48))=_
    rw[decide_eq_decide.mpr (show x=48↔[x]=[48] by simp)]
   rw[e] at q
   exact q H1 s1
 ·have e:isW l=false:=by unfold isW;rw[c];rfl
  rw[e] at q
  exact q H1 s1
theorem af2:Df P w K mg base "has" 1 ["mask","number"] (aGC K):=by
 refine ZZ.ew.dfs aGE (fun vs H Q E h=>?_) (fun f cdv A outer s H vs Q E hr h=>?_)
 ·obtain⟨_,_,rfl,_⟩:=h
  rfl
 obtain⟨m,n,rfl,h0,q⟩:=h
 refine⟨_,(ss1 (aaH (acT oEq (eOp awP (eOp azC (v_ 0) (v_ 1)) eI) eI))),?_⟩
 refine⟨_,rfl,_,rfl,_,_,rfl,rfl,h0.2,_,_,rfl,rfl,rfl,?_⟩
 have e:decide (V.int (Builtin.bitAnd (m / 2^n.toNat) 1)=V.int 1)=tb m n.toNat:=by
  rw[←aCP h0.1]
  exact decide_eq_decide.mpr int_eq
 show Q (.bl (decide (V.int (Builtin.bitAnd (m / 2^n.toNat) 1)=V.int 1))) H
 rw[e]
 exact q
theorem as3:Df P w K mg base "mask_of" 1 ["numbers"] (auC K):=by
 refine ZZ.ed.dfs sc_mask_of (fun vs H Q E h=>?_) (fun f cdv A outer s H vs Q E hr h=>?_)
 ·obtain⟨_,_,rfl,_⟩:=h
  rfl
 obtain⟨a,zs,rfl,hS,hz,q⟩:=h
 refine⟨_,(ssC (aaJ 1 eI sc_mask_of.nd)
   (ssC (acZ (iL (v_ 0)) (gN 2 sc_mask_of.nd) (ss1 (aaJ 1 (eOp oOr (v_ 1) (eOp amA eI (v_ 2))) sc_mask_of.nd)) PassesOwn.never)
   (ss1 (aaH (v_ 1))))),?_⟩
 refine⟨_,rfl,a,rfl,⟨_,hS⟩,abX (K:=K) (a:=a) (xs:=zs.map V.int) (fun i σ H2=>H2=H/\∃u:Option V,σ=[some (.ref a),some (.int (aaO (zs.take i))),u]) ⟨rfl,_,rfl⟩ (fun i σ H2 _ hP=>by rw[hP.1];exact hS) ?_ ?_⟩
 ·rintro i x σ H2 hx ⟨rfl,u,rfl⟩
  rw[bA] at hx
  cases ez:zs[i]? with
  |none=>rw[ez] at hx;cases hx
  |some z=>
   rw[ez] at hx
   obtain rfl:V.int z=x:=a8 hx
   have h:=hz z (bI ez)
   have et:aaO (zs.take (i+1))=Builtin.bitOr (aaO (zs.take i)) (1*2^z.toNat):=by
    rw[b7,ez,←aj1]
    rfl
   exact⟨_,rfl,_,rfl,_,_,rfl,rfl,⟨h.1,by omega,by decide⟩,_,_,rfl,rfl,rfl,_,by rw[et];rfl⟩
 ·rintro σ H2 ⟨rfl,u,rfl⟩
  rw[aU,cF]
  exact⟨_,rfl,q⟩
theorem al4:Df P w K mg base "numbers_in" 2 ["mask"] (alY K):=by
 refine ZZ.ct.dfs alZ (fun vs H Q E h=>?_) (fun f cdv A outer s H vs Q E hr h=>?_)
 ·obtain⟨_,rfl,_⟩:=h
  rfl
 obtain⟨m,rfl,hm,q⟩:=h
 refine⟨_,(ss1 (aaH (alM ["mask"] [0] (iR1 ZZ.ac (aC (eBL (v_ 0)) aN)) (fun _ _ _ _ _ _=>(fs1 (tVa (eD (af2 ZZ) hr (aC (v_ 1) (aC (v_ 0) aN)))))) (fun _ _ _ _ _ _=>(v_ 0))))),?_⟩
 refine⟨_,rfl,rfl,_,rfl,rfl,_,rfl,by omega,by omega,adG (fun i z=>z=(flt (tb m) 0 i).map V.int) (by rw[dZ,bQ];omega) aCE ?_ ?_⟩
 ·intro i z D H2 E' F' hi hR hD s2 hz hE hF
  subst hR
  refine⟨_,rfl,_,rfl,_,_,rfl,⟨hm.1,by omega⟩,_,rfl,?_⟩
  have e0:(0+(i:Int)).toNat=i:=by omega
  show if tb m (0+(i:Int)).toNat=true then _ else _
  rw[e0]
  by_cases c:tb m i=true
  ·rw[if_pos c]
   exact⟨_,rfl,hE _ _ (Same.refl _) (by rw[apL c,bH];rfl)⟩
  ·rw[if_neg c]
   exact hF _ (Same.refl _) (by rw[an6 (by simpa using c)])
 ·intro D H2 z hR hD s2 hz
  subst hR
  rw[bQ] at hz
  exact q D H2 s2 hz
theorem ah1:Df P w K mg base "run_mask" 2 ["first","last","stride"] (ap9 K):=by
 refine ZZ.dr.dfs aq6 (fun vs H Q E h=>?_) (fun f cdv A outer s H vs Q E hr h=>?_)
 ·obtain⟨_,_,_,rfl,_⟩:=h
  rfl
 obtain⟨a,b,st,rfl,ha,hb,hs,q⟩:=h
 refine⟨_,(ss1 (aaH (eD (as3 ZZ) hr (aC (eCT cLR ZZ.bl PyProof.Rows.boot_list (aC (eCT cRg3 ZZ.ac boot_range (aC (v_ 0) (aC (eOp aa2 (v_ 1) eI) (aC (v_ 2) aN)))) aN)) aN)))),?_⟩
 obtain⟨n1,n2⟩:=aoF ha.1 hb.2 hs.1
 have bd:∀z∈acU a b st,0<=z/\z<=100000:=fun z hz=>by
  have:=(apH hs.1).mp hz
  omega
 refine⟨_,rfl,_,rfl,_,_,rfl,rfl,_,rfl,_,_,_,rfl,⟨hs.1,by omega⟩,fun p hp=>⟨p,a,b+1,st,(Builtin.Range.rangeSize a (b+1) st).toNat,rfl,aaA,arS ha.1 ha.2 hb.1 hb.2 hs.1 hs.2,n2,(by omega),fun l hl=>⟨l,acU a b st,rfl,SqL.of (by rw[ajL,cQ];exact aaA),bd,?_⟩⟩⟩
 exact q _ ((aaB hp _).trans (aaB hl _))
theorem abD:Df P w K mg base "read_number" 3 ["text","low","high"] (alQ K):=by
 refine ZZ.ch.dfs sc_read_number (fun vs H Q E h=>?_) (fun f cdv A outer s H vs Q E hr h=>?_)
 ·obtain⟨_,_,_,rfl,_⟩:=h
  rfl
 obtain⟨l,lo,hi,rfl,hl,q⟩:=h
 refine⟨_,(ssC (sIf (tNo (tVa (eD (afA ZZ) hr (aC (v_ 0) aN)))) (ss1 (aaH eN)) ssN)
   (ssC (aaJ 3 (eCT aJM ZZ.dn PyProof.Rows.boot_int (aC (v_ 0) aN)) sc_read_number.nd)
   (ssC (sIf (tCh oLe oLe (v_ 1) (v_ 3) (v_ 2)) (ss1 (aaH (v_ 3))) ssN)
   (ss1 (aaH eN))))),?_⟩
 refine⟨_,rfl,l,rfl,(by omega),fun H1 s1=>⟨_,rfl,?_⟩⟩
 by_cases c:isW l=true
 ·rw[c]
  obtain⟨d1,d2⟩:=as1 c
  refine aa1 ⟨_,rfl,l,rfl,d1,d2,(by omega),?_⟩
  refine⟨_,rfl,_,rfl,_,_,rfl,rfl,_,rfl,?_⟩
  show if decide (lo<=dv l)=true then _ else _
  refine ifD (fun c1=>⟨_,rfl,_,_,rfl,rfl,_,rfl,?_⟩) (fun c1=>⟨_,rfl,?_⟩)
  ·show if decide (dv l<=hi)=true then _ else _
   refine ifD (fun c2=>?_) (fun c2=>?_)
   ·have e:aaX lo hi l=some (dv l):=by unfold aaX;rw[if_pos c,if_pos ⟨c1,c2⟩]
    rw[e] at q
    exact⟨_,rfl,q H1 s1⟩
   ·have e:aaX lo hi l=none:=by unfold aaX;rw[if_pos c,if_neg fun z=>c2 z.2]
    rw[e] at q
    exact q H1 s1
  ·have e:aaX lo hi l=none:=by unfold aaX;rw[if_pos c,if_neg fun z=>c1 z.1]
   rw[e] at q
   exact aa1 (q H1 s1)
 ·have c':isW l=false:=by simpa using c
  rw[c']
  have e:aaX lo hi l=none:=by unfold aaX;rw[if_neg c]
  rw[e] at q
  exact abF (q H1 s1)
theorem aiF:Df P w K mg base "read_run" 4 ["text","low","high"] (arP K):=by
 refine ZZ.ds.dfs sc_read_run (fun vs H Q E h=>?_) (fun f cdv A outer s H vs Q E hr h=>?_)
 ·obtain⟨_,_,_,rfl,_⟩:=h
  rfl
 obtain⟨l,lo,hi,rfl,hl,q⟩:=h
 refine⟨_,(ssC (sIf (tCm oEq (v_ 0) (eSx [42])) (ss1 (aaH (abN (aC (v_ 1) (aC (v_ 2) aN))))) ssN)
   (ssC (aM1 3 ["low","high"] [1,2] (iL (axK (v_ 0) (eSx [45]))) (fun _ _ _ _ _ _=>fsN) (fun _ _ _ _ _ _=>(eD (abD ZZ) hr (aC (v_ 0) (aC (v_ 1) (aC (v_ 2) aN))))) sc_read_run.nd)
   (ssC (sIf (tW (wOr (tCm oGt (eCB amB ZZ.af PySem.boot_len (aC (v_ 3) aN)) eI) (wOr (tCm oIn eN (v_ 3)) (ak2 (tCm oGt (eIx xL (v_ 3) eI) (eIx xL (v_ 3) (eUn aqM eI))))))) (ss1 (aaH eN)) ssN)
   (ss1 (aaH (abN (aC (eIx xL (v_ 3) eI) (aC (eIx xL (v_ 3) (eUn aqM eI)) aN)))))))),?_⟩
 refine⟨_,rfl,rfl,_,rfl,?_⟩
 rw[ay2 l [42]]
 by_cases c:l=[42]
 ·rw[eC c]
  refine abF ⟨_,rfl,_,rfl,(zL 2),fun p hp=>?_⟩
  have e:aaZ lo hi l=some (lo,hi):=by unfold aaZ;rw[if_pos c]
  rw[e] at q
  exact q _ _ (aaB hp _) ⟨p,rfl,aaA⟩
 rw[eF c]
 have hsl:=agW 45 l
 have eR:aaZ lo hi l=aiH ((spl 45 l).map (aaX lo hi)):=by unfold aaZ;rw[if_neg c]
 rw[eR] at q
 refine aa1 ⟨_,rfl,rfl,l,45,rfl,rfl,(by rw[dZ];omega),fun ps hps=>⟨ps,rfl,⟨_,SqL.of aaA⟩,amR (xs:=(spl 45 l).map fun q=>V.str (Tx q)) (fun i z=>z=((spl 45 l).take i).map fun q=>oV (aaX lo hi q)) (by rw[aU,dZ];omega) rfl (SqL.of aaA) ?_ ?_⟩⟩
 ·intro i v z D H2 E' F' hv hR hD s2 hz hE hF
  subst hR
  rw[bA] at hv
  cases ew:(spl 45 l)[i]? with
  |none=>rw[ew] at hv;cases hv
  |some w0=>
   rw[ew] at hv
   obtain rfl:V.str (Tx w0)=v:=a8 hv
   have hw:=abR 45 l w0 (bI ew)
   exact⟨_,rfl,_,rfl,_,rfl,w0,lo,hi,rfl,(by omega),fun H3 s3=>hE _ _ s3 (by rw[b7,ew,bH];rfl)⟩
 intro D H2 z hR hD s2 hz
 subst hR
 rw[aU,cF] at hz
 have hz2:H2 D=some (.lst (((spl 45 l).map (aaX lo hi)).map oV)):=by rw[hz,cQ];rfl
 have hlen:((spl 45 l).map (aaX lo hi)).length<=600:=by rw[aU];omega
 have hnn:(spl 45 l).map (aaX lo hi)≠[]:=fun e=>aEV 45 l (List.map_eq_nil_iff.mp e)
 generalize (spl 45 l).map (aaX lo hi)=es at hz2 q hlen hnn
 have s02:Same H H2:=(aaB hps _).trans s2
 have hfl:(es.map oV).all ae9=true:=aBV es
 refine⟨_,rfl,D,_,rfl,.inl (SqL.of hz2),_,_,rfl,rfl,_,rfl,?_⟩
 match es,hnn with
 |[],h=>exact absurd rfl h
 |[none],_=>
  refine aa1 ⟨_,rfl,D,_,rfl,.inl (SqL.of hz2),rfl,hfl,_,rfl,abF ?_⟩
  exact q _ _ s02 rfl
 |[some a],_=>
  refine aa1 ⟨_,rfl,D,_,rfl,.inl (SqL.of hz2),rfl,hfl,_,rfl,aa1 ⟨_,rfl,D,_,_,_,rfl,rfl,SqL.of hz2,rfl,_,rfl,_,rfl,D,_,_,_,rfl,rfl,SqL.of hz2,rfl,_,_,rfl,rfl,_,rfl,?_⟩⟩
  rw[eF (show ¬a<a by omega)]
  refine aa1 ⟨_,rfl,D,_,_,_,rfl,rfl,SqL.of hz2,rfl,_,rfl,_,rfl,D,_,_,_,rfl,rfl,SqL.of hz2,rfl,(zL 2),fun p hp=>?_⟩
  exact q _ _ (s02.trans (aaB hp _)) ⟨p,rfl,aaA⟩
 |[none,y],_=>
  refine aa1 ⟨_,rfl,D,_,rfl,.inl (SqL.of hz2),rfl,hfl,_,rfl,abF ?_⟩
  exact q _ _ s02 rfl
 |[some a,none],_=>
  refine aa1 ⟨_,rfl,D,_,rfl,.inl (SqL.of hz2),rfl,hfl,_,rfl,abF ?_⟩
  exact q _ _ s02 rfl
 |[some a,some b],_=>
  refine aa1 ⟨_,rfl,D,_,rfl,.inl (SqL.of hz2),rfl,hfl,_,rfl,aa1 ⟨_,rfl,D,_,_,_,rfl,rfl,SqL.of hz2,rfl,_,rfl,_,rfl,D,_,_,_,rfl,rfl,SqL.of hz2,rfl,_,_,rfl,rfl,_,rfl,?_⟩⟩
  refine ifD (fun c2=>?_) (fun c2=>?_)
  ·have e:aiH [some a,some b]=none:=by show (if b<a then none else some (a,b))=none;rw[if_pos c2]
   rw[e] at q
   exact q _ _ s02 rfl
  ·have e:aiH [some a,some b]=some (a,b):=by show (if b<a then none else some (a,b))=some (a,b);rw[if_neg c2]
   rw[e] at q
   refine⟨_,rfl,D,_,_,_,rfl,rfl,SqL.of hz2,rfl,_,rfl,_,rfl,D,_,_,_,rfl,rfl,SqL.of hz2,rfl,(zL 2),fun p hp=>?_⟩
   exact q _ _ (s02.trans (aaB hp _)) ⟨p,rfl,aaA⟩
 |x::y::u::r,_=>
  have e3:decide ((2:Int)<(((x::y::u::r).map oV).length:Nat))=true:=eC (by rw[aU];show (2:Int)<((r.length+1+1+1:Nat):Int);omega)
  refine ifT e3 ?_
  have e:aiH (x::y::u::r)=none:=by cases x<;>cases y<;>rfl
  rw[e] at q
  exact q _ _ s02 rfl
theorem aiV:Df P w K mg base "read_strided" 5 ["run_text","stride_text","low","high"] (aiQ K):=by
 refine ZZ.b3.dfs sc_read_strided (fun vs H Q E h=>?_) (fun f cdv A outer s H vs Q E hr h=>?_)
 ·obtain⟨_,_,_,_,rfl,_⟩:=h
  rfl
 obtain⟨r,st,lo,hi,rfl,hr1,hs1,hb,q⟩:=h
 refine⟨_,(ssC (aaJ 4 (eD (aiF ZZ) hr (aC (v_ 0) (aC (v_ 2) (aC (v_ 3) aN)))) sc_read_strided.nd)
   (ssC (aaJ 5 (eD (abD ZZ) hr (aC (v_ 1) (aC eI (aC (eGl (v:=.int 99) ZZ.ce ⟨_,rfl⟩) aN)))) sc_read_strided.nd)
   (ssC (sIf (tW (wOr (tCm ac4 (v_ 4) eN) (ak2 (tCm ac4 (v_ 5) eN)))) (ss1 (aaH eN)) ssN)
   (ssC (aaJ 6 (eIf (tVa (eD (afA ZZ) hr (aC (v_ 0) aN))) (v_ 3) (eIx xT (v_ 4) eI)) sc_read_strided.nd)
   (ss1 (aaH (eD (ah1 ZZ) hr (aC (eIx xT (v_ 4) eI) (aC (v_ 6) (aC (v_ 5) aN)))))))))),?_⟩
 refine⟨_,rfl,_,rfl,_,rfl,r,lo,hi,rfl,(by omega),fun rv H1 s1 hrv=>?_⟩
 refine⟨_,rfl,st,1,99,rfl,(by omega),fun H2 s2=>?_⟩
 cases er:aaZ lo hi r with
 |none=>
  rw[er] at hrv
  have hrv:rv=.non:=hrv
  subst hrv
  have e:abK lo hi r st=none:=by unfold abK;rw[er]
  rw[e] at q
  exact⟨_,rfl,rfl,_,rfl,abF (q H2 (s1.trans s2))⟩
 |some ab=>
  obtain⟨a,b⟩:=ab
  rw[er] at hrv
  obtain⟨p,rfl,hp⟩:=hrv
  have bd:=ajZ hb.2.1 er
  refine⟨_,rfl,rfl,_,rfl,ifF rfl ⟨_,rfl,rfl,_,rfl,?_⟩⟩
  cases es:aaX 1 99 st with
  |none=>
   have e:abK lo hi r st=none:=by unfold abK;rw[er,es]
   rw[e] at q
   exact ifT rfl (q H2 (s1.trans s2))
  |some sv=>
   have bs:=aqD es
   have hp2:=s2 _ _ hp
   refine ifF rfl ⟨_,rfl,r,rfl,(by omega),fun H3 s3=>⟨_,rfl,?_⟩⟩
   have hp3:=s3 _ _ hp2
   refine if2 (fun c=>?_) (fun c=>?_)
   ·have e:abK lo hi r st=some (ai4 a hi sv):=by unfold abK;rw[er,es];show some (ai4 a (if isW r=true then hi else b) sv)=_;rw[if_pos c]
    rw[e] at q
    refine⟨_,rfl,_,rfl,p,_,_,_,rfl,rfl,SqT.of hp3,rfl,_,rfl,_,rfl,a,hi,sv,rfl,⟨by omega,by omega⟩,⟨by omega,by omega⟩,⟨by omega,by omega⟩,fun H4 s4=>?_⟩
    exact q H4 (s1.trans (s2.trans (s3.trans s4)))
   ·have e:abK lo hi r st=some (ai4 a b sv):=by unfold abK;rw[er,es];show some (ai4 a (if isW r=true then hi else b) sv)=_;rw[if_neg (by rw[c];exact bB)]
    rw[e] at q
    refine⟨_,rfl,p,_,_,_,rfl,rfl,SqT.of hp3,rfl,_,rfl,p,_,_,_,rfl,rfl,SqT.of hp3,rfl,_,rfl,_,rfl,a,b,sv,rfl,⟨by omega,by omega⟩,⟨by omega,by omega⟩,⟨by omega,by omega⟩,fun H4 s4=>?_⟩
    exact q H4 (s1.trans (s2.trans (s3.trans s4)))
theorem agX:Df P w K mg base "read_item" 6 ["item","low","high"] (aoT K):=by
 refine ZZ.c5.dfs sc_read_item (fun vs H Q E h=>?_) (fun f cdv A outer s H vs Q E hr h=>?_)
 ·obtain⟨_,_,_,rfl,_⟩:=h
  rfl
 obtain⟨l,lo,hi,rfl,hl,hb,q⟩:=h
 refine⟨_,(ssC (aaJ 3 (axK (v_ 0) (eSx [47])) sc_read_item.nd)
   (ssC (sIf (tCm oEq (eCB amB ZZ.af PySem.boot_len (aC (v_ 3) aN)) eI) (ss1 (aaH (eD (aiV ZZ) hr (aC (eIx xL (v_ 3) eI) (aC (eIx xL (v_ 3) eI) (aC (v_ 1) (aC (v_ 2) aN))))))) ssN)
   (ssC (aaJ 4 (eD (aiF ZZ) hr (aC (v_ 0) (aC (v_ 1) (aC (v_ 2) aN)))) sc_read_item.nd)
   (ssC (sIf (tCm ac4 (v_ 4) eN) (ss1 (aaH eN)) ssN)
   (ss1 (aaH (eD (ah1 ZZ) hr (aC (eIx xT (v_ 4) eI) (aC (eIx xT (v_ 4) eI) (aC eI aN)))))))))),?_⟩
 have hsl:=agW 47 l
 have hml:=abR 47 l
 refine⟨_,rfl,rfl,l,47,rfl,rfl,(by rw[dZ];omega),fun ps hps=>?_⟩
 have s0:=aaB hps (.lst ((spl 47 l).map fun q=>V.str (Tx q)))
 refine⟨_,rfl,ps,_,rfl,.inl (SqL.of aaA),rfl,_,rfl,?_⟩
 have two:(∃r s,spl 47 l=[r,s])∨(∀r s,spl 47 l≠[r,s]):=by
  by_cases z:∃r s,spl 47 l=[r,s]
  ·exact .inl z
  ·exact .inr fun r s e=>z ⟨r,s,e⟩
 rcases two with ⟨r,s,e2⟩ | hno
 ·have e:aaI lo hi l=abK lo hi r s:=by unfold aaI;rw[e2]
  rw[e] at q
  have h1:=hml r (by rw[e2];simp)
  have h2:=hml s (by rw[e2];simp)
  rw[e2]
  refine ifT rfl ⟨_,rfl,ps,_,_,_,rfl,rfl,SqL.of aaA,rfl,_,rfl,ps,_,_,_,rfl,rfl,SqL.of aaA,rfl,_,rfl,_,rfl,r,s,lo,hi,rfl,(by omega),(by omega),hb,fun H1 s1=>?_⟩
  exact q H1 ((aaB hps _).trans s1)
 ·have hlen:¬(spl 47 l).length=2:=fun e=>by
   match h:spl 47 l,e with
   |[r,s],_=>exact hno r s h
  have e:aaI lo hi l=match aaZ lo hi l with | some (a,b)=>some (ai4 a b 1) | none=>none:=by
   unfold aaI
   split
   ·rename_i r s h
    exact absurd h (hno r s)
   ·rfl
  refine ifF (eF fun z=>hlen (by have z:=V.int.inj z;rw[aU] at z;omega)) ?_
  refine⟨_,rfl,_,rfl,_,rfl,l,lo,hi,rfl,(by omega),fun rv H1 s1 hrv=>?_⟩
  cases er:aaZ lo hi l with
  |none=>
   rw[er] at hrv e
   have hrv:rv=.non:=hrv
   subst hrv
   rw[e] at q
   exact⟨_,rfl,rfl,_,rfl,abF (q H1 (s0.trans s1))⟩
  |some ab=>
   obtain⟨a,b⟩:=ab
   rw[er] at hrv e
   obtain⟨p,rfl,hp⟩:=hrv
   have bd:=ajZ hb.2.1 er
   have e:aaI lo hi l=some (ai4 a b 1):=e
   rw[e] at q
   refine⟨_,rfl,rfl,_,rfl,ifF rfl ⟨_,rfl,p,_,_,_,rfl,rfl,SqT.of hp,rfl,_,rfl,p,_,_,_,rfl,rfl,SqT.of hp,rfl,a,b,1,rfl,⟨by omega,by omega⟩,⟨by omega,by omega⟩,⟨by decide,by decide⟩,fun H4 s4=>?_⟩⟩
   exact q H4 (s0.trans (s1.trans s4))
theorem al3:Df P w K mg base "read_field" 7 ["text","low","high"] (al6 K):=by
 refine ZZ.cu.dfs sc_read_field (fun vs H Q E h=>?_) (fun f cdv A outer s H vs Q E hr h=>?_)
 ·obtain⟨_,_,_,rfl,_⟩:=h
  rfl
 obtain⟨l,lo,hi,rfl,hl,hb,⟨hk,hok⟩,q⟩:=h
 refine⟨_,(ssC (sIf (tW (wOr (tNo (tVa (eCB cIs ZZ.ad PyProof.Rows.boot_isinstance (aC (v_ 0) (aC (eTy ZZ.ag PyProof.Rows.boot_str) aN))))) (ak2 (tCm oGt (eCB az9 ZZ.af PySem.boot_len (aC (v_ 0) aN)) (eGl (v:=.int 300) ZZ.a9 ⟨_,rfl⟩))))) (ss1 an9) ssN)
   (ssC (aaJ 3 (axK (v_ 0) (eSx [44])) sc_read_field.nd)
   (ssC (aaJ 4 eI sc_read_field.nd)
   (ssC (acZ (iE ZZ.am (eSl slL (v_ 3) poN (poS (eGl (v:=.int 40) ZZ.aj ⟨_,rfl⟩)))) (gTu (gsC (gN 5 sc_read_field.nd) (gsC (gN 6 sc_read_field.nd) gsN))) (ssC (aaJ 7 (eD (agX ZZ) hr (aC (v_ 6) (aC (v_ 1) (aC (v_ 2) aN)))) sc_read_field.nd)
   (ssC (sIf (tCm ac4 (v_ 7) eN) (ss1 an9) ssN)
   (ss1 (aaJ 4 (eOp oOr (v_ 4) (v_ 7)) sc_read_field.nd)))) PassesOwn.never)
   (ssC (sIf (tCm oGt (eCB amB ZZ.af PySem.boot_len (aC (v_ 3) aN)) (eGl (v:=.int 40) ZZ.aj ⟨_,rfl⟩)) (ss1 an9) ssN)
   (ss1 (aaH (v_ 4)))))))),?_⟩
 have hml:=abR 44 l
 refine⟨_,rfl,_,.str,.str,rfl,(by decide),rfl,_,rfl,ifF rfl ⟨_,rfl,l,rfl,(by rw[dZ];omega),_,_,rfl,rfl,_,rfl,?_⟩⟩
 rw[eF (show ¬(300:Int)<((l.length:Nat):Int) by omega)]
 refine aa1 ⟨_,rfl,rfl,l,44,rfl,rfl,(by rw[dZ];omega),fun ps hps=>?_⟩
 have s0:=aaB hps (.lst ((spl 44 l).map fun q=>V.str (Tx q)))
 refine⟨_,rfl,_,rfl,ps,_,rfl,SqL.of aaA,fun pc hpc=>?_⟩
 have ecut:aq2 ((spl 44 l).map fun q=>V.str (Tx q)) none (some 40)=(spl 44 l).map fun q=>V.str (Tx q):=aDG (by rw[aU];exact hk)
 rw[ecut]
 have s1:=aaB hpc (.lst ((spl 44 l).map fun q=>V.str (Tx q)))
 refine⟨pc,rfl,⟨_,SqL.of aaA⟩,akB (K:=K) (a:=pc) (xs:=(spl 44 l).map fun q=>V.str (Tx q)) (fun i σ H2=>∃(u1 u2 u3:Option V),σ=[some (.str (Tx l)),some (.int lo),some (.int hi),some (.ref ps),some (.int (orM ((adE lo hi l).take i))),u1,u2,u3]/\Same (upd (upd H ps (.lst ((spl 44 l).map fun q=>V.str (Tx q)))) pc (.lst ((spl 44 l).map fun q=>V.str (Tx q)))) H2) ⟨_,_,_,rfl,Same.refl _⟩ (fun i σ H2 _ ⟨_,_,_,_,s2⟩=>SqL.of (s2 _ _ aaA)) ?_ ?_⟩
 ·rintro i x σ H2 T hx ⟨u1,u2,u3,rfl,s2⟩ hT
  rw[bA] at hx
  cases ew:(spl 44 l)[i]? with
  |none=>rw[ew] at hx;cases hx
  |some w0=>
   rw[ew] at hx
   obtain rfl:V.str (Tx w0)=x:=a8 hx
   have hw:=hml w0 (bI ew)
   obtain⟨m,em⟩:=dB.mp (hok w0 (bI ew))
   refine⟨T,_,rfl,SqT.of aaA,rfl,_,_,rfl,_,_,rfl,rfl,?_⟩
   refine⟨_,rfl,_,rfl,_,rfl,w0,lo,hi,rfl,(by omega),hb,fun H3 s3=>?_⟩
   rw[em]
   refine⟨_,rfl,rfl,_,rfl,ifF rfl ⟨_,rfl,_,rfl,_,_,rfl,rfl,?_⟩⟩
   have et:orM ((adE lo hi l).take (i+1))=Builtin.bitOr (orM ((adE lo hi l).take i)) m:=by
    rw[←aeI,b7]
    unfold adE
    rw[bA,ew]
    show orM (_++[(aaI lo hi w0).getD 0])=_
    rw[em]
    rfl
   exact⟨_,_,_,by rw[et];rfl,s2.trans ((aaB hT _).trans s3)⟩
 ·rintro σ H2 ⟨u1,u2,u3,rfl,s2⟩
  refine⟨_,rfl,ps,_,rfl,.inl (SqL.of (s2 _ _ (s1 _ _ aaA))),_,_,rfl,rfl,_,rfl,?_⟩
  rw[eF (show ¬(40:Int)<((((spl 44 l).map fun q=>V.str (Tx q)).length:Nat):Int) by rw[aU];omega)]
  refine aa1 ⟨_,rfl,?_⟩
  rw[aU,show (spl 44 l).length=(adE lo hi l).length by unfold adE;rw[aU],cF]
  exact q H2 (s0.trans (s1.trans s2))
theorem afC:Df P w K mg base "weekday_at" 1 ["day","first"] (amC K):=by
 refine ZZ.cv.dfs amE (fun vs H Q E h=>?_) (fun f cdv A outer s H vs Q E hr h=>?_)
 ·obtain⟨_,_,rfl,_⟩:=h
  rfl
 obtain⟨d,f,rfl,q⟩:=h
 refine⟨_,(ss1 (aaH (eOp ab3 (eOp abA (eOp aa2 (v_ 1) (v_ 0)) eI) eI))),?_⟩
 exact⟨_,rfl,_,rfl,_,_,rfl,rfl,_,_,rfl,rfl,_,_,rfl,rfl,(by show (0:Int)<7;decide),q⟩
theorem aeO:Df P w K mg base "all_days" 1 ["last"] (aqE K):=by
 refine ZZ.dt.dfs aq7 (fun vs H Q E h=>?_) (fun f cdv A outer s H vs Q E hr h=>?_)
 ·obtain⟨_,rfl,_⟩:=h
  rfl
 obtain⟨l,rfl,hl,q⟩:=h
 refine⟨_,(ss1 (aaH (eOp abA (eOp amA eI (v_ 0)) eI))),?_⟩
 exact⟨_,rfl,_,_,rfl,rfl,⟨by omega,by omega,by decide⟩,_,_,rfl,rfl,q⟩
theorem adR:Df P w K mg base "nearest_work" 2 ["day","last","first"] (ai8 K):=by
 refine ZZ.b4.dfs sc_nearest_work (fun vs H Q E h=>?_) (fun f cdv A outer s H vs Q E hr h=>?_)
 ·obtain⟨_,_,_,rfl,_⟩:=h
  rfl
 obtain⟨d,l,fi,rfl,q⟩:=h
 refine⟨_,(ssC (aaJ 3 (eD (afC ZZ) hr (aC (v_ 0) (aC (v_ 2) aN))) sc_nearest_work.nd)
   (ssC (sIf (tCm oEq (v_ 3) (eGl (v:=.int 6) ZZ.di ⟨_,rfl⟩)) (ss1 (aaH (eIf (tCm oGt (v_ 0) eI) (eOp abA (v_ 0) eI) eI))) ssN)
   (ssC (sIf (tCm oEq (v_ 3) (eGl (v:=.int 0) ZZ.bp ⟨_,rfl⟩)) (ss1 (aaH (eIf (tCm oLt (v_ 0) (v_ 1)) (eOp aa2 (v_ 0) eI) (eOp abA (v_ 1) eI)))) ssN)
   (ss1 (aaH (v_ 0)))))),?_⟩
 refine⟨_,rfl,_,rfl,_,_,rfl,?_⟩
 refine⟨_,rfl,rfl,_,rfl,ifI (fun c=>?_) (fun c=>?_)⟩
 ·refine⟨_,rfl,_,_,rfl,rfl,_,rfl,ifD (fun c2=>⟨_,rfl,_,_,rfl,rfl,?_⟩) (fun c2=>?_)⟩
  ·have e:nw d l fi=d-1:=by unfold nw;rw[if_pos c,if_pos c2]
   rw[e] at q
   exact q
  ·have e:nw d l fi=3:=by unfold nw;rw[if_pos c,if_neg c2]
   rw[e] at q
   exact q
 ·refine⟨_,rfl,rfl,_,rfl,ifI (fun c1=>?_) (fun c1=>?_)⟩
  ·refine⟨_,rfl,_,rfl,_,_,rfl,rfl,_,rfl,ifD (fun c2=>⟨_,rfl,_,_,rfl,rfl,?_⟩) (fun c2=>⟨_,rfl,_,_,rfl,rfl,?_⟩)⟩
   ·have e:nw d l fi=d+1:=by unfold nw;rw[if_neg c,if_pos c1,if_pos c2]
    rw[e] at q
    exact q
   ·have e:nw d l fi=l-2:=by unfold nw;rw[if_neg c,if_pos c1,if_neg c2]
    rw[e] at q
    exact q
  ·have e:nw d l fi=d:=by unfold nw;rw[if_neg c,if_neg c1]
   rw[e] at q
   exact⟨_,rfl,q⟩
theorem an5:Df P w K mg base "first_one" 1 ["weekday","first"] (ao0 K):=by
 refine ZZ.c6.dfs aoK (fun vs H Q E h=>?_) (fun f cdv A outer s H vs Q E hr h=>?_)
 ·obtain⟨_,_,rfl,_⟩:=h
  rfl
 obtain⟨wd,fi,rfl,q⟩:=h
 refine⟨_,(ss1 (aaH (eOp aa2 eI (eOp ab3 (eOp abA (v_ 0) (v_ 1)) eI)))),?_⟩
 exact⟨_,rfl,_,rfl,_,_,rfl,rfl,_,_,rfl,rfl,(by show (0:Int)<7;decide),_,_,rfl,rfl,q⟩
theorem apI:DfM P w K mg base aI "days" 1 ["self","last","first"] (aoV K aI):=by
 refine ZZ.c7.dfs anZ (fun vs H Q E h=>?_) (fun f cdv A outer s H vs Q E hr h=>?_)
 ·obtain⟨_,_,_,rfl,_⟩:=h
  rfl
 obtain⟨p,l,fi,rfl,q⟩:=h
 refine⟨_,(ss1 (aaH eI)),?_⟩
 exact q
theorem aeY:DfM P w K mg base aB "__init__" 1 ["self","mask"] (ae6 K aB):=by
 refine ZZ.bn.dfs ae2 (fun vs H Q E h=>?_) (fun f cdv A outer s H vs Q E hr h=>?_)
 ·obtain⟨_,_,_,rfl,_⟩:=h
  rfl
 obtain⟨p,dx,m,rfl,hp,q⟩:=h
 refine⟨_,(ss1 (sFl (v_ 0) (v_ 1))),?_⟩
 exact⟨_,rfl,_,rfl,p,aB,dx,[],rfl,hp,ZZ.aq.cl,ZZ.a3,(by show 0<1000;decide),q⟩
theorem aiZ:DfM P w K mg base aB "days" 2 ["self","last","first"] (ai6 K aB):=by
 refine ZZ.b5.dfs ai5 (fun vs H Q E h=>?_) (fun f cdv A outer s H vs Q E hr h=>?_)
 ·obtain⟨_,_,_,_,_,rfl,_⟩:=h
  rfl
 obtain⟨p,dx,m,l,fi,rfl,hp,hl,q⟩:=h
 refine⟨_,(ss1 (aaH (eOp awP (eFl (v_ 0)) (eD (aeO ZZ) hr (aC (v_ 1) aN))))),?_⟩
 exact⟨_,rfl,p,aB,dx,_,_,rfl,hp,ZZ.aq.cl,ZZ.a3,rfl,_,rfl,_,rfl,hl.1,_,_,rfl,rfl,q⟩
theorem ac6:DfMD P w K mg base aE "__init__" 1 ["self","back"] (ag6 K aE) [.int 0]:=by
 refine ZZ.bt.dfs ahG (fun vs H Q E h=>?_) (fun f cdv A outer s H vs Q E hr h=>?_)
 ·obtain⟨_,_,_,rfl,_⟩:=h
  rfl
 obtain⟨p,dx,m,rfl,hp,q⟩:=h
 refine⟨_,(ss1 (sFl (v_ 0) (v_ 1))),?_⟩
 exact⟨_,rfl,_,rfl,p,aE,dx,[],rfl,hp,ZZ.ar.cl,ZZ.av,(by show 0<1000;decide),q⟩
theorem apN:DfM P w K mg base aE "days" 1 ["self","last","first"] (apB K aE):=by
 refine ZZ.c8.dfs aoM (fun vs H Q E h=>?_) (fun f cdv A outer s H vs Q E hr h=>?_)
 ·obtain⟨_,_,_,_,_,rfl,_⟩:=h
  rfl
 obtain⟨p,dx,b,l,fi,rfl,hp,hb,hl,q⟩:=h
 refine⟨_,(ssC (sIf (tCm oGe (eFl (v_ 0)) (v_ 1)) (ss1 (aaH eI)) ssN)
   (ss1 (aaH (eOp amA eI (eOp abA (v_ 1) (eFl (v_ 0))))))),?_⟩
 refine⟨_,rfl,p,aE,dx,_,_,rfl,hp,ZZ.ar.cl,ZZ.av,rfl,_,rfl,_,_,rfl,rfl,_,rfl,ifD (fun c=>?_) (fun c=>?_)⟩
 ·have e:apG b l=0:=by unfold apG;rw[if_pos c]
  rw[e] at q
  exact q
 ·have e:apG b l=1*2^(l-b).toNat:=by unfold apG;rw[if_neg c]
  rw[e] at q
  have:=hl.1.2
  exact⟨_,rfl,_,rfl,p,aE,dx,_,_,rfl,hp,ZZ.ar.cl,ZZ.av,rfl,_,_,rfl,rfl,_,_,rfl,rfl,⟨by omega,by omega,by decide⟩,q⟩
theorem ahU:DfM P w K mg base aF "__init__" 1 ["self","day"] (ahL K aF):=by
 refine ZZ.bu.dfs ahX (fun vs H Q E h=>?_) (fun f cdv A outer s H vs Q E hr h=>?_)
 ·obtain⟨_,_,_,rfl,_⟩:=h
  rfl
 obtain⟨p,dx,m,rfl,hp,q⟩:=h
 refine⟨_,(ss1 (sFl (v_ 0) (v_ 1))),?_⟩
 exact⟨_,rfl,_,rfl,p,aF,dx,[],rfl,hp,ZZ.aw.cl,ZZ.ax,(by show 0<1000;decide),q⟩
theorem ao1:DfM P w K mg base aF "days" 3 ["self","last","first"] (apV K aF):=by
 refine ZZ.c9.dfs ao8 (fun vs H Q E h=>?_) (fun f cdv A outer s H vs Q E hr h=>?_)
 ·obtain⟨_,_,_,_,_,rfl,_⟩:=h
  rfl
 obtain⟨p,dx,d,l,fi,rfl,hp,ok,q⟩:=h
 refine⟨_,(ssC (sIf (tCm oGt (eFl (v_ 0)) (v_ 1)) (ss1 (aaH eI)) ssN)
   (ss1 (aaH (eOp amA eI (eD (adR ZZ) hr (aC (eFl (v_ 0)) (aC (v_ 1) (aC (v_ 2) aN)))))))),?_⟩
 refine⟨_,rfl,p,aF,dx,_,_,rfl,hp,ZZ.aw.cl,ZZ.ax,rfl,_,rfl,_,_,rfl,rfl,_,rfl,ifD (fun c=>?_) (fun c=>?_)⟩
 ·have e:apS d l fi=0:=by unfold apS;rw[if_pos c]
  rw[e] at q
  exact q
 ·have e:apS d l fi=1*2^(nw d l fi).toNat:=by unfold apS;rw[if_neg c]
  rw[e] at q
  have hn:=ajO ok (by omega)
  exact⟨_,rfl,p,aF,dx,_,_,rfl,hp,ZZ.aw.cl,ZZ.ax,rfl,_,rfl,_,rfl,_,_,_,rfl,_,_,rfl,rfl,⟨by omega,by omega,by decide⟩,q⟩
theorem ahT:DfM P w K mg base aH "days" 3 ["self","last","first"] (ahK K aH):=by
 refine ZZ.bv.dfs ahF (fun vs H Q E h=>?_) (fun f cdv A outer s H vs Q E hr h=>?_)
 ·obtain⟨_,_,_,_,rfl,_⟩:=h
  rfl
 obtain⟨p,dx,l,fi,rfl,hp,ok,q⟩:=h
 refine⟨_,(ss1 (aaH (eOp amA eI (eD (adR ZZ) hr (aC (v_ 1) (aC (v_ 1) (aC (v_ 2) aN))))))),?_⟩
 have hn:=ajO ok (aZ _)
 exact⟨_,rfl,_,rfl,_,rfl,_,_,_,rfl,_,_,rfl,rfl,⟨by omega,by omega,by decide⟩,q⟩
theorem aeA:DfM P w K mg base aD "__init__" 1 ["self","mask"] (aeF K aD):=by
 refine ZZ.bi.dfs ad0 (fun vs H Q E h=>?_) (fun f cdv A outer s H vs Q E hr h=>?_)
 ·obtain⟨_,_,_,rfl,_⟩:=h
  rfl
 obtain⟨p,dx,m,rfl,hp,q⟩:=h
 refine⟨_,(ss1 (sFl (v_ 0) (v_ 1))),?_⟩
 exact⟨_,rfl,_,rfl,p,aD,dx,[],rfl,hp,ZZ.an.cl,ZZ.ay,(by show 0<1000;decide),q⟩
theorem ahD:DfM P w K mg base aD "days" 2 ["self","last","first"] (ahR K aD):=by
 refine ZZ.bw.dfs sc_Weekdays_days (fun vs H Q E h=>?_) (fun f cdv A outer s H vs Q E hr h=>?_)
 ·obtain⟨_,_,_,_,_,rfl,_⟩:=h
  rfl
 obtain⟨p,dx,m,l,fi,rfl,hp,hm,⟨hl,hf⟩,q⟩:=h
 refine⟨_,(ssC (aaJ 3 eI sc_Weekdays_days.nd)
   (ssC (acZ (iR1 ZZ.ac (aC eI aN)) (gN 4 sc_Weekdays_days.nd) (ss1 (aaJ 3 (eOp oOr (v_ 3) (eOp amA (eFl (v_ 0)) (eOp af3 eI (v_ 4)))) sc_Weekdays_days.nd)) PassesOwn.never)
   (ss1 (aaH (eOp awP (eOp amA (eOp azC (v_ 3) (v_ 2)) eI) (eD (aeO ZZ) hr (aC (v_ 1) aN))))))),?_⟩
 have hb:=aCB m (aCD hm.1 hm.2)
 refine⟨_,rfl,by decide,by decide,abS (fun i σ H2=>H2=H/\∃u:Option V,σ=[some (.ref p),some (.int l),some (.int fi),some (.int (wks m i)),u]) ⟨rfl,_,rfl⟩ ?_ ?_⟩
 ·rintro i σ H2 hi ⟨rfl,u,rfl⟩
  have hi':i<6:=hi
  exact⟨_,rfl,_,rfl,p,aD,dx,_,_,rfl,hp,ZZ.an.cl,ZZ.ay,rfl,_,rfl,_,_,rfl,rfl,.inl ⟨by decide,by decide⟩,_,_,rfl,rfl,⟨by omega,by omega,(by show m.natAbs<2^64;omega)⟩,_,_,rfl,rfl,rfl,_,rfl⟩
 ·rintro σ H2 ⟨rfl,u,rfl⟩
  exact⟨_,rfl,_,rfl,_,_,rfl,rfl,hf.1,_,_,rfl,rfl,⟨by decide,by decide,hb.2 fi (afQ hf.1 hf.2)⟩,_,rfl,_,rfl,hl,_,_,rfl,rfl,q⟩
theorem ai1:DfM P w K mg base aA "__init__" 1 ["self","weekday","many"] (ajA K aA):=by
 refine ZZ.b6.dfs ajB (fun vs H Q E h=>?_) (fun f cdv A outer s H vs Q E hr h=>?_)
 ·obtain⟨_,_,_,_,rfl,_⟩:=h
  rfl
 obtain⟨p,dx,wd,m,rfl,hp,q⟩:=h
 refine⟨_,(ssC (sFl (v_ 0) (v_ 1))
   (ss1 (sFl (v_ 0) (v_ 2)))),?_⟩
 exact⟨_,rfl,_,rfl,p,aA,dx,[],rfl,hp,ZZ.az.cl,ZZ.a4,(by show 0<1000;decide),_,rfl,_,rfl,p,aA,dx,_,rfl,aaA,ZZ.az.cl,ZZ.bc,(by show 1<1000;decide),q⟩
theorem ar9:DfM P w K mg base aA "days" 2 ["self","last","first"] (ar4 K aA):=by
 refine ZZ.du.dfs sc_Nth_days (fun vs H Q E h=>?_) (fun f cdv A outer s H vs Q E hr h=>?_)
 ·obtain⟨_,_,_,_,_,_,rfl,_⟩:=h
  rfl
 obtain⟨p,dx,wd,m,l,fi,rfl,hp,hw,hm,⟨hl,hf⟩,q⟩:=h
 refine⟨_,(ssC (aaJ 3 (eOp aa2 (eD (an5 ZZ) hr (aC (eFl (v_ 0)) (aC (v_ 2) aN))) (eOp af3 eI (eOp abA (eFl (v_ 0)) eI))) sc_Nth_days.nd)
   (ssC (sIf (tCm oGt (v_ 3) (v_ 1)) (ss1 (aaH eI)) ssN)
   (ss1 (aaH (eOp amA eI (v_ 3)))))),?_⟩
 have hn:=aCI l (aeZ hl.1 hl.2) fi (afQ hf.1 hf.2) wd (afQ hw.1 hw.2) m (aLQ hm.1 hm.2)
 refine⟨_,rfl,p,aA,dx,_,_,rfl,hp,ZZ.az.cl,ZZ.a4,aFG _ _,_,rfl,_,_,rfl,_,rfl,p,aA,dx,_,_,rfl,hp,ZZ.az.cl,ZZ.bc,aGJ _ _,_,_,rfl,rfl,_,_,rfl,rfl,.inl ⟨by decide,by decide⟩,_,_,rfl,rfl,?_⟩
 refine⟨_,rfl,_,rfl,_,_,rfl,rfl,_,rfl,ifD (fun c=>?_) (fun c=>?_)⟩
 ·have e:al8 wd m l fi=0:=by unfold al8;rw[if_pos (show l<acA wd m fi from c)]
  rw[e] at q
  exact q
 ·have e:al8 wd m l fi=1*2^(acA wd m fi).toNat:=by unfold al8;rw[if_neg (show ¬l<acA wd m fi from c)]
  rw[e] at q
  exact⟨_,rfl,_,_,rfl,rfl,⟨hn.2.2.1,c6 hn.2.2.2 (by decide),by decide⟩,q⟩
theorem ae5:DfM P w K mg base aG "__init__" 1 ["self","weekday"] (aeX K aG):=by
 refine ZZ.bo.dfs ae7 (fun vs H Q E h=>?_) (fun f cdv A outer s H vs Q E hr h=>?_)
 ·obtain⟨_,_,_,rfl,_⟩:=h
  rfl
 obtain⟨p,dx,m,rfl,hp,q⟩:=h
 refine⟨_,(ss1 (sFl (v_ 0) (v_ 1))),?_⟩
 exact⟨_,rfl,_,rfl,p,aG,dx,[],rfl,hp,ZZ.as.cl,ZZ.au,(by show 0<1000;decide),q⟩
theorem aiW:DfM P w K mg base aG "days" 2 ["self","last","first"] (ajH K aG):=by
 refine ZZ.b7.dfs ajG (fun vs H Q E h=>?_) (fun f cdv A outer s H vs Q E hr h=>?_)
 ·obtain⟨_,_,_,_,_,rfl,_⟩:=h
  rfl
 obtain⟨p,dx,wd,l,fi,rfl,hp,hw,⟨hl,hf⟩,q⟩:=h
 refine⟨_,(ss1 (aaH (eOp amA eI (eOp abA (v_ 1) (eOp ab3 (eOp abA (eD (afC ZZ) hr (aC (v_ 1) (aC (v_ 2) aN))) (eFl (v_ 0))) eI))))),?_⟩
 have hn:=aA8 l (aeZ hl.1 hl.2) fi (afQ hf.1 hf.2) wd (afQ hw.1 hw.2)
 exact⟨_,rfl,_,rfl,_,rfl,_,_,rfl,_,rfl,p,aG,dx,_,_,rfl,hp,ZZ.as.cl,ZZ.au,rfl,_,_,rfl,rfl,_,_,rfl,rfl,(by show (0:Int)<7;decide),_,_,rfl,rfl,_,_,rfl,rfl,⟨hn.2.1,c6 hn.2.2 (by decide),by decide⟩,q⟩
theorem aqW:Df P w K mg base "any_days" 4 ["marks","last","first"] (arG K aB aE aF aH aD aA aG aI):=by
 refine ZZ.dv.dfs sc_any_days (fun vs H Q E h=>?_) (fun f cdv A outer s H vs Q E hr h=>?_)
 ·obtain⟨_,_,_,_,_,rfl,_⟩:=h
  rfl
 obtain⟨b,ps,ks,l,fi,rfl,hB,fM,oM,hlf,q⟩:=h
 refine⟨_,(ssC (aaJ 3 eI sc_any_days.nd)
   (ssC (acZ (iL (v_ 0)) (gN 4 sc_any_days.nd) (ss1 (aaJ 3 (eOp oOr (v_ 3) (aqI (eMe ZZ.aq.cl (aiZ ZZ) hr (v_ 4) (aC (v_ 1) (aC (v_ 2) aN))) (aqI (eMe ZZ.ar.cl (apN ZZ) hr (v_ 4) (aC (v_ 1) (aC (v_ 2) aN))) (aqI (eMe ZZ.aw.cl (ao1 ZZ) hr (v_ 4) (aC (v_ 1) (aC (v_ 2) aN))) (aqI (eMe ZZ.bb.cl (ahT ZZ) hr (v_ 4) (aC (v_ 1) (aC (v_ 2) aN))) (aqI (eMe ZZ.an.cl (ahD ZZ) hr (v_ 4) (aC (v_ 1) (aC (v_ 2) aN))) (aqI (eMe ZZ.az.cl (ar9 ZZ) hr (v_ 4) (aC (v_ 1) (aC (v_ 2) aN))) (aqI (eMe ZZ.as.cl (aiW ZZ) hr (v_ 4) (aC (v_ 1) (aC (v_ 2) aN))) (eMe ZZ.er.cl (apI ZZ) hr (v_ 4) (aC (v_ 1) (aC (v_ 2) aN))))))))))) sc_any_days.nd)) PassesOwn.never)
   (ss1 (aaH (v_ 3))))),?_⟩
 refine⟨_,rfl,b,rfl,⟨_,hB⟩,abX (K:=K) (a:=b) (xs:=ps.map V.ref) (fun i σ H2=>H2=H/\∃u4:Option V,σ=[some (.ref b),some (.int l),some (.int fi),some (.int (orK (ks.take i) l fi)),u4]) ⟨rfl,_,rfl⟩ (fun i σ H2 _ hP=>by rw[hP.1];exact hB) ?turn ?done⟩
 case done=>
  rintro σ H2 ⟨rfl,u4,rfl⟩
  have el:(ps.map V.ref).length=ks.length:=by rw[aU];exact Paired.length fM
  rw[el,cF]
  exact⟨_,rfl,q⟩
 case turn=>
  rintro i x σ H2 hx ⟨rfl,u4,rfl⟩
  rw[bA] at hx
  cases ez:ps[i]? with
  |none=>rw[ez] at hx;cases hx
  |some p=>
   rw[ez] at hx
   obtain rfl:V.ref p=x:=a8 hx
   obtain⟨k,ek,hk⟩:=Ft.get fM ez
   have hok:=oM k (bI ek)
   have et:orK (ks.take (i+1)) l fi=Builtin.bitOr (orK (ks.take i) l fi) (k.due l fi):=by
    rw[b7,ek]
    exact azE _ _ _ _
   rw[et]
   cases k with
   |num m=>
    obtain⟨dx,hp⟩:=hk
    exact⟨_,rfl,(.inl ⟨_,rfl,p,dx,_,rfl,hp,rfl,_,rfl,_,rfl,p,dx,m,l,fi,rfl,hp,hlf,_,_,rfl,rfl,rfl,_,rfl⟩)⟩
   |lst b=>
    obtain⟨dx,hp⟩:=hk
    exact⟨_,rfl,(.inr (.inl ⟨_,rfl,p,dx,_,rfl,hp,rfl,_,rfl,_,rfl,p,dx,b,l,fi,rfl,hp,hok,hlf,_,_,rfl,rfl,rfl,_,rfl⟩))⟩
   |nea d=>
    obtain⟨dx,hp⟩:=hk
    exact⟨_,rfl,(.inr (.inr (.inl ⟨_,rfl,p,dx,_,rfl,hp,rfl,_,rfl,_,rfl,p,dx,d,l,fi,rfl,hp,⟨hok,hlf⟩,_,_,rfl,rfl,rfl,_,rfl⟩)))⟩
   |wrk=>
    obtain⟨dx,hp⟩:=hk
    exact⟨_,rfl,(.inr (.inr (.inr (.inl ⟨_,rfl,p,dx,_,rfl,hp,rfl,_,rfl,_,rfl,p,dx,l,fi,rfl,hp,hlf.last,_,_,rfl,rfl,rfl,_,rfl⟩))))⟩
   |wkd m=>
    obtain⟨dx,hp⟩:=hk
    exact⟨_,rfl,(.inr (.inr (.inr (.inr (.inl ⟨_,rfl,p,dx,_,rfl,hp,rfl,_,rfl,_,rfl,p,dx,m,l,fi,rfl,hp,hok,hlf,_,_,rfl,rfl,rfl,_,rfl⟩)))))⟩
   |nth w m=>
    obtain⟨dx,hp⟩:=hk
    exact⟨_,rfl,(.inr (.inr (.inr (.inr (.inr (.inl ⟨_,rfl,p,dx,_,rfl,hp,aAY _ _,_,rfl,_,rfl,p,dx,w,m,l,fi,rfl,hp,hok.1,hok.2,hlf,_,_,rfl,rfl,rfl,_,rfl⟩))))))⟩
   |one w=>
    obtain⟨dx,hp⟩:=hk
    exact⟨_,rfl,(.inr (.inr (.inr (.inr (.inr (.inr (.inl ⟨_,rfl,p,dx,_,rfl,hp,rfl,_,rfl,_,rfl,p,dx,w,l,fi,rfl,hp,hok,hlf,_,_,rfl,rfl,rfl,_,rfl⟩)))))))⟩
   |nil=>
    obtain⟨dx,hp⟩:=hk
    exact⟨_,rfl,(.inr (.inr (.inr (.inr (.inr (.inr (.inr ⟨_,rfl,p,dx,_,rfl,hp,rfl,_,rfl,_,rfl,p,l,fi,rfl,_,_,rfl,rfl,rfl,_,rfl⟩)))))))⟩
theorem ahC:Df P w K mg base "read_day_mark" 4 ["item"] (agZ K aB aE aF aH aD aA aG aI):=by
 refine ZZ.bx.dfs sc_read_day_mark (fun vs H Q E h=>?_) (fun f cdv A outer s H vs Q E hr h=>?_)
 ·obtain⟨_,rfl,_⟩:=h
  rfl
 obtain⟨t,rfl,hl,q⟩:=h
 refine⟨_,(ssC (sIf (tCm oEq (v_ 0) (eSx [76])) (ss1 (aaH (eMkD ZZ.ar (ac6 ZZ) hr))) ssN)
   (ssC (sIf (tCm oEq (v_ 0) (eSx [76,87])) (ss1 (aaH (eMkN ZZ.bb ZZ.dh))) ssN)
   (ssC (sIf (tVa (eSwN (v_ 0) (eSx [76,45]))) (ssC (aaJ 1 (eD (abD ZZ) hr (aC (eSl slX (v_ 0) (poS eI) poN) (aC eI (aC (eGl (v:=.int 30) ZZ.c2 ⟨_,rfl⟩) aN)))) sc_read_day_mark.nd)
   (ss1 (aaH (eIf (tCm ac4 (v_ 1) eN) eN (eMk ZZ.ar (ac6 ZZ).dfm hr (aC (v_ 1) aN)))))) ssN)
   (ssC (sIf (tVa (eEw (v_ 0) (eSx [87]))) (ssC (aaJ 2 (eD (abD ZZ) hr (aC (eSl slX (v_ 0) poN (poS (eUn aqM eI))) (aC eI (aC (eGl (v:=.int 31) ZZ.bd ⟨_,rfl⟩) aN)))) sc_read_day_mark.nd)
   (ss1 (aaH (eIf (tCm ac4 (v_ 2) eN) eN (eMk ZZ.aw (ahU ZZ) hr (aC (v_ 2) aN)))))) ssN)
   (ss1 (aaH eN)))))),?_⟩
 have hz:t.length<=sizeLine:=by rw[dZ];omega
 have hc1:=agB t (some 2) none
 have hc2:=agB t none (some (-1))
 refine⟨_,rfl,rfl,_,rfl,ifX (fun c=>?a0) (fun c1=>⟨_,rfl,rfl,_,rfl,ifX (fun c=>?a1) (fun c2=>⟨_,rfl,rfl,t,[76,45],rfl,rfl,_,rfl,ifD (fun c=>?a2) (fun c3=>⟨_,rfl,rfl,t,87,rfl,rfl,_,rfl,ifD (fun c=>?a3) (fun c4=>?a4)⟩)⟩)⟩)⟩
 case a0=>
  have e:ac1 t=some (.lst 0):=by unfold ac1;rw[if_pos c]
  rw[e] at q
  exact fun xo dx nx ndx nex=>⟨xo,dx,0,rfl,aaA,rfl,q _ _ (acR nx ndx) ⟨xo,rfl,dx,aaA⟩⟩
 case a1=>
  have e:ac1 t=some .wrk:=by unfold ac1;rw[if_neg c1,if_pos c]
  rw[e] at q
  exact fun xo dx nx ndx nex=>q _ _ (akC nx ndx) ⟨xo,rfl,dx,aaA⟩
 case a2=>
  have e:ac1 t=(aaX 1 30 (ae3 t (some 2) none)).map Mk.lst:=by unfold ac1;rw[if_neg c1,if_neg c2,if_pos c]
  rw[e] at q
  refine⟨_,rfl,_,rfl,t,rfl,hz,_,1,30,rfl,(by omega),fun H1 s1=>?_⟩
  cases en:aaX 1 30 (ae3 t (some 2) none) with
  |none=>
   rw[en] at q
   exact⟨_,rfl,rfl,_,rfl,ifT rfl (q _ _ s1 rfl)⟩
  |some b=>
   rw[en] at q
   exact⟨_,rfl,rfl,_,rfl,ifF rfl ⟨_,rfl,fun xo dx nx ndx nex=>⟨xo,dx,_,rfl,aaA,rfl,q _ _ (s1.trans (acR nx ndx)) ⟨xo,rfl,dx,aaA⟩⟩⟩⟩
 case a3=>
  have e:ac1 t=(aaX 1 31 (ae3 t none (some (-1)))).map Mk.nea:=by unfold ac1;rw[if_neg c1,if_neg c2,if_neg c3,if_pos c]
  rw[e] at q
  refine⟨_,rfl,_,rfl,_,rfl,t,rfl,hz,_,1,31,rfl,(by omega),fun H1 s1=>?_⟩
  cases en:aaX 1 31 (ae3 t none (some (-1))) with
  |none=>
   rw[en] at q
   exact⟨_,rfl,rfl,_,rfl,ifT rfl (q _ _ s1 rfl)⟩
  |some b=>
   rw[en] at q
   exact⟨_,rfl,rfl,_,rfl,ifF rfl ⟨_,rfl,fun xo dx nx ndx nex=>⟨xo,dx,_,rfl,aaA,rfl,q _ _ (s1.trans (acR nx ndx)) ⟨xo,rfl,dx,aaA⟩⟩⟩⟩
 case a4=>
  have e:ac1 t=none:=by unfold ac1;rw[if_neg c1,if_neg c2,if_neg c3,if_neg c4]
  rw[e] at q
  exact q _ _ (Same.refl H) rfl
theorem adQ:Df P w K mg base "read_weekday" 4 ["text"] (ajD K):=by
 refine ZZ.b8.dfs sc_read_weekday (fun vs H Q E h=>?_) (fun f cdv A outer s H vs Q E hr h=>?_)
 ·obtain⟨_,rfl,_⟩:=h
  rfl
 obtain⟨t,rfl,hl,q⟩:=h
 refine⟨_,(ssC (aaJ 1 (eD (abD ZZ) hr (aC (v_ 0) (aC eI (aC (eGl (v:=.int 7) ZZ.ak ⟨_,rfl⟩) aN)))) sc_read_weekday.nd)
   (ss1 (aaH (eIf (tCm oEq (v_ 1) (eGl (v:=.int 7) ZZ.ak ⟨_,rfl⟩)) (eGl (v:=.int 0) ZZ.bp ⟨_,rfl⟩) (v_ 1))))),?_⟩
 refine⟨_,rfl,t,0,7,rfl,(by omega),fun H1 s1=>?_⟩
 cases en:aaX 0 7 t with
 |none=>
  have e:wdN t=none:=by unfold wdN;rw[en];rfl
  rw[e] at q
  exact⟨_,rfl,rfl,_,rfl,ifF (eF fun z=>nomatch z) ⟨_,rfl,q _ s1⟩⟩
 |some n=>
  have e:wdN t=some (if n=7 then 0 else n):=by unfold wdN;rw[en];rfl
  rw[e] at q
  refine⟨_,rfl,rfl,_,rfl,ifI (fun c=>?_) (fun c=>⟨_,rfl,?_⟩)⟩
  ·rw[if_pos c] at q
   exact q _ s1
  ·rw[if_neg c] at q
   exact q _ s1
theorem ad6:Df P w K mg base "read_weekday_mark" 5 ["item"] (ad9 K aB aE aF aH aD aA aG aI):=by
 refine ZZ.bj.dfs sc_read_weekday_mark (fun vs H Q E h=>?_) (fun f cdv A outer s H vs Q E hr h=>?_)
 ·obtain⟨_,rfl,_⟩:=h
  rfl
 obtain⟨t,rfl,hl,q⟩:=h
 refine⟨_,(ssC (sIf (tVa (eEw (v_ 0) (eSx [76]))) (ssC (aaJ 1 (eD (adQ ZZ) hr (aC (eSl slX (v_ 0) poN (poS (eUn aqM eI))) aN)) sc_read_weekday_mark.nd)
   (ss1 (aaH (eIf (tCm ac4 (v_ 1) eN) eN (eMk ZZ.as (ae5 ZZ) hr (aC (v_ 1) aN)))))) ssN)
   (ssC (aaJ 2 (axK (v_ 0) (eSx [35])) sc_read_weekday_mark.nd)
   (ssC (sIf (tCm oNe (eCB amB ZZ.af PySem.boot_len (aC (v_ 2) aN)) eI) (ss1 (aaH eN)) ssN)
   (ssC (aaJ 1 (eD (adQ ZZ) hr (aC (eIx xL (v_ 2) eI) aN)) sc_read_weekday_mark.nd)
   (ssC (aaJ 3 (eD (abD ZZ) hr (aC (eIx xL (v_ 2) eI) (aC eI (aC (eGl (v:=.int 5) ZZ.dj ⟨_,rfl⟩) aN)))) sc_read_weekday_mark.nd)
   (ssC (sIf (tW (wOr (tCm ac4 (v_ 1) eN) (ak2 (tCm ac4 (v_ 3) eN)))) (ss1 (aaH eN)) ssN)
   (ss1 (aaH (eMk ZZ.az (ai1 ZZ) hr (aC (v_ 1) (aC (v_ 3) aN))))))))))),?_⟩
 have hz:t.length<=sizeLine:=by rw[dZ];omega
 have hc2:=agB t none (some (-1))
 have hsl:=agW 35 t
 have hml:=abR 35 t
 refine⟨_,rfl,rfl,t,76,rfl,rfl,_,rfl,ifD (fun c=>?a0) (fun c1=>?a1)⟩
 case a0=>
  have e:ao6 t=(wdN (ae3 t none (some (-1)))).map Mk.one:=by unfold ao6;rw[if_pos c]
  rw[e] at q
  refine⟨_,rfl,_,rfl,_,rfl,t,rfl,hz,_,rfl,(by omega),fun H1 s1=>?_⟩
  cases en:wdN (ae3 t none (some (-1))) with
  |none=>
   rw[en] at q
   exact⟨_,rfl,rfl,_,rfl,ifT rfl (q _ _ s1 rfl)⟩
  |some b=>
   rw[en] at q
   exact⟨_,rfl,rfl,_,rfl,ifF rfl ⟨_,rfl,fun xo dx nx ndx nex=>⟨xo,dx,_,rfl,aaA,rfl,q _ _ (s1.trans (acR nx ndx)) ⟨xo,rfl,dx,aaA⟩⟩⟩⟩
 case a1=>
  refine⟨_,rfl,rfl,t,35,rfl,rfl,(by rw[dZ];omega),fun ps hps=>?_⟩
  have s0:=aaB hps (.lst ((spl 35 t).map fun q=>V.str (Tx q)))
  refine⟨_,rfl,ps,_,rfl,.inl (SqL.of aaA),rfl,_,rfl,?_⟩
  have two:(∃a b,spl 35 t=[a,b])∨(∀a b,spl 35 t≠[a,b]):=by
   by_cases z:∃a b,spl 35 t=[a,b]
   ·exact .inl z
   ·exact .inr fun r s e=>z ⟨r,s,e⟩
  rcases two with ⟨a,b,e2⟩ | hno
  ·have e:ao6 t=aDQ (wdN a) (aaX 1 5 b):=by unfold ao6;rw[if_neg c1,e2]
   rw[e] at q
   have h1:=hml a (by rw[e2];simp)
   have h2:=hml b (by rw[e2];simp)
   rw[e2]
   refine ifF rfl ⟨_,rfl,ps,_,_,_,rfl,rfl,SqL.of aaA,rfl,a,rfl,(by omega),fun H1 s1=>?_⟩
   refine⟨_,rfl,ps,_,_,_,rfl,rfl,SqL.of (s1 _ _ aaA),rfl,b,1,5,rfl,(by omega),fun H2 s2=>?_⟩
   rw[e2] at s0
   cases ew:wdN a with
   |none=>
    rw[ew] at q
    exact⟨_,rfl,rfl,_,rfl,ifT rfl (q _ _ (s0.trans (s1.trans s2)) rfl)⟩
   |some wd=>
    rw[ew] at q
    refine⟨_,rfl,rfl,_,rfl,ifF rfl ⟨_,rfl,rfl,_,rfl,?_⟩⟩
    cases en:aaX 1 5 b with
    |none=>
     rw[en] at q
     exact ifT rfl (q _ _ (s0.trans (s1.trans s2)) rfl)
    |some m=>
     rw[en] at q
     exact ifF rfl ⟨_,rfl,_,rfl,fun xo dx nx ndx nex=>⟨xo,dx,_,_,rfl,aaA,rfl,q _ _ (s0.trans (s1.trans (s2.trans (azN nx ndx)))) ⟨xo,rfl,dx,aaA⟩⟩⟩
  ·have hlen:¬(spl 35 t).length=2:=fun e=>by
    match h:spl 35 t,e with
    |[r,s],_=>exact hno r s h
   have e:ao6 t=none:=by
    unfold ao6
    rw[if_neg c1]
    split
    ·rename_i a b h
     exact absurd h (hno a b)
    ·rfl
   rw[e] at q
   refine ifT ?_ (q _ _ s0 rfl)
   rw[eF fun z=>hlen (by have z:=V.int.inj z;rw[aU] at z;omega)]
   rfl
theorem afB:Df P w K mg base "read_items" 7 ["text","low","high","read_mark"] (al1 K aB aE aF aH aD aA aG aI aO aP):=by
 refine ZZ.cw.dfs sc_read_items (fun vs H Q E h=>?_) (fun f cdv A outer s H vs Q E hr h=>?_)
 ·obtain⟨_,_,_,_,rfl,_⟩:=h
  rfl
 obtain⟨l,lo,hi,wk,rfl,hb,hok,q⟩:=h
 refine⟨_,(ssC (sIf (tW (wOr (tNo (tVa (eCB cIs ZZ.ad PyProof.Rows.boot_isinstance (aC (v_ 0) (aC (eTy ZZ.ag PyProof.Rows.boot_str) aN))))) (ak2 (tCm oGt (eCB az9 ZZ.af PySem.boot_len (aC (v_ 0) aN)) (eGl (v:=.int 300) ZZ.a9 ⟨_,rfl⟩))))) (ss1 an9) ssN)
   (ssC (aaJ 4 (axK (v_ 0) (eSx [44])) sc_read_items.nd)
   (ssC (aaJ 5 eI sc_read_items.nd)
   (ssC (aaJ 6 (ab0 aN) sc_read_items.nd)
   (ssC (acZ (iE ZZ.am (eSl slL (v_ 4) poN (poS (eGl (v:=.int 40) ZZ.aj ⟨_,rfl⟩)))) (gTu (gsC (gN 7 sc_read_items.nd) (gsC (gN 8 sc_read_items.nd) gsN))) (ssC (aaJ 9 (eD (agX ZZ) hr (aC (v_ 8) (aC (v_ 1) (aC (v_ 2) aN)))) sc_read_items.nd)
   (ss1 (sIf (tCm ac4 (v_ 9) eN) (ssC (aaJ 10 (aqI (eDV ((ahC ZZ).at_ ZZ.a2) hr (v_ 3) (aC (v_ 8) aN)) (eDV ((ad6 ZZ).at_ ZZ.ap) hr (v_ 3) (aC (v_ 8) aN))) sc_read_items.nd)
   (ssC (sIf (tW (wOr (tCm ac4 (v_ 10) eN) (ak2 (tCm oEq (eCB amB ZZ.af PySem.boot_len (aC (v_ 6) aN)) (eGl (v:=.int 20) ZZ.co ⟨_,rfl⟩))))) (ss1 an9) ssN)
   (ss1 (apC (arB (v_ 6) (v_ 10)))))) (ss1 (aaJ 5 (eOp oOr (v_ 5) (v_ 9)) sc_read_items.nd))))) PassesOwn.never)
   (ssC (sIf (tCm oGt (eCB amB ZZ.af PySem.boot_len (aC (v_ 4) aN)) (eGl (v:=.int 40) ZZ.aj ⟨_,rfl⟩)) (ss1 an9) ssN)
   (ss1 (aaH (abN (aC (v_ 5) (aC (v_ 6) aN))))))))))),?_⟩
 have hl:=hok.len
 have hml:=abR 44 l
 refine⟨_,rfl,_,.str,.str,rfl,(by decide),rfl,_,rfl,ifF rfl ⟨_,rfl,l,rfl,(by rw[dZ];omega),_,_,rfl,rfl,_,rfl,?_⟩⟩
 rw[eF (show ¬(300:Int)<((l.length:Nat):Int) by omega)]
 refine aa1 ⟨_,rfl,rfl,l,44,rfl,rfl,(by rw[dZ];omega),fun ps hps=>?_⟩
 have s0:=aaB hps (.lst ((spl 44 l).map fun q=>V.str (Tx q)))
 refine⟨(zL 0),fun mk hmk=>?_⟩
 have s1:=aaB hmk (.lst [])
 refine⟨_,rfl,_,rfl,ps,_,rfl,SqL.of (s1 _ _ aaA),fun pc hpc=>?_⟩
 have ecut:aq2 ((spl 44 l).map fun q=>V.str (Tx q)) none (some 40)=(spl 44 l).map fun q=>V.str (Tx q):=aDG (by rw[aU];exact hok.few)
 rw[ecut]
 have hne:pc≠mk:=fun e=>by
  rw[e,aaA] at hpc
  cases hpc
 have s1b:=aaB hpc (.lst ((spl 44 l).map fun q=>V.str (Tx q)))
 refine⟨pc,rfl,⟨_,SqL.of aaA⟩,akB (K:=K) (a:=pc) (xs:=(spl 44 l).map fun q=>V.str (Tx q)) (fun i σ H2=>∃(u1 u2 u3 u4:Option V) (qs:List Addr),σ=[some (.str (Tx l)),some (.int lo),some (.int hi),some (.ref (if wk=true then aP else aO)),some (.ref ps),some (.int (orM (plP lo hi ((spl 44 l).take i)))),some (.ref mk),u1,u2,u3,u4]/\Same (upd H ps (.lst ((spl 44 l).map fun q=>V.str (Tx q)))) H2/\H2 pc=some (.lst ((spl 44 l).map fun q=>V.str (Tx q)))/\H2 mk=some (.lst (qs.map V.ref))/\Ft (MkAt (⟨aB,aE,aF,aH,aD,aA,aG,aI⟩:Cs) H2) qs (mkP wk lo hi ((spl 44 l).take i))) ⟨_,_,_,_,[],rfl,s1.trans s1b,aaA,s1b _ _ aaA,.nil⟩ (fun i σ H2 _ ⟨_,_,_,_,_,_,_,h,_⟩=>SqL.of h) ?turn ?done⟩
 case turn=>
  rintro i x σ H2 T hx ⟨u1,u2,u3,u4,qs,rfl,s2,h2c,h2m,hq⟩ hT
  rw[bA] at hx
  cases ew:(spl 44 l)[i]? with
  |none=>rw[ew] at hx;cases hx
  |some w0=>
   rw[ew] at hx
   obtain rfl:V.str (Tx w0)=x:=a8 hx
   have hw:=hml w0 (bI ew)
   refine⟨T,_,rfl,SqT.of aaA,rfl,_,_,rfl,_,_,rfl,rfl,?_⟩
   refine⟨_,rfl,_,rfl,_,rfl,w0,lo,hi,rfl,(by omega),hb,fun H3 s3=>?_⟩
   cases em:aaI lo hi w0 with
   |some m=>
    have et:(spl 44 l).take (i+1)=(spl 44 l).take i++[w0]:=by rw[b7,ew];rfl
    have s23:=(aaB hT _).trans s3
    refine⟨_,rfl,rfl,_,rfl,ifF rfl ⟨_,rfl,_,rfl,_,_,rfl,rfl,?_⟩⟩
    exact⟨_,_,_,_,qs,by rw[et,aB8 em,aeI];rfl,s2.trans s23,s23 _ _ h2c,s23 _ _ h2m,by rw[et,aF6 em];exact hq.keepM s23.keep⟩
   |none=>
    cases wk with
    |false=>
     have hso:(rdM false w0).isSome=true:=by
      rcases hok.all w0 (bI ew) with h | h
      ·rw[em] at h;cases h
      ·exact h
     obtain⟨k,ek⟩:=dB.mp hso
     have ek':ac1 w0=some k:=ek
     refine⟨_,rfl,rfl,_,rfl,ifT rfl ?_⟩
     refine .inl ⟨_,rfl,rfl,_,rfl,w0,rfl,(by omega),fun v H4 s4 hv=>?_⟩
     rw[ek'] at hv
     obtain⟨x,rfl,hx⟩:=hv
     have s24:=(aaB hT _).trans (s3.trans s4)
     have hq4:=hq.keepM s24.keep
     have lq:qs.length=(mkP false lo hi ((spl 44 l).take i)).length:=Paired.length hq
     have l1:=ar8 false lo hi (spl 44 l) (i+1)
     have et:(spl 44 l).take (i+1)=(spl 44 l).take i++[w0]:=by rw[b7,ew];rfl
     rw[et,ajQ em ek,bC,cL] at l1
     have hm20:=hok.most
     refine⟨_,rfl,rfl,_,rfl,ifF rfl ⟨_,rfl,mk,_,rfl,.inl (SqL.of (s24 _ _ h2m)),rfl,_,rfl,?_⟩⟩
     refine ifI (fun c=>?_) (fun c=>?_)
     ·rw[aU] at c
      omega
     refine⟨_,rfl,.inl ⟨rfl,_,SqL.of (s24 _ _ h2m)⟩,_,rfl,mk,_,_,rfl,rfl,s24 _ _ h2m,(by rw[aU,dZ];omega),?_⟩
     have kp:=alI (l':=qs.map V.ref++[.ref x]) (s24 _ _ h2m)
     exact⟨_,_,_,_,qs++[x],by rw[et,ayD em];rfl,ab7 hmk (s2.trans s24),by rw[aaF hne];exact s24 _ _ h2c,by rw[bH];exact aaA,by rw[et,ajQ em ek];exact Ft.app (hq4.keepM kp) (.cons (hx.keep kp) .nil)⟩
    |true=>
     have hso:(rdM true w0).isSome=true:=by
      rcases hok.all w0 (bI ew) with h | h
      ·rw[em] at h;cases h
      ·exact h
     obtain⟨k,ek⟩:=dB.mp hso
     have ek':ao6 w0=some k:=ek
     refine⟨_,rfl,rfl,_,rfl,ifT rfl ?_⟩
     refine .inr ⟨_,rfl,rfl,_,rfl,w0,rfl,(by omega),fun v H4 s4 hv=>?_⟩
     rw[ek'] at hv
     obtain⟨x,rfl,hx⟩:=hv
     have s24:=(aaB hT _).trans (s3.trans s4)
     have hq4:=hq.keepM s24.keep
     have lq:qs.length=(mkP true lo hi ((spl 44 l).take i)).length:=Paired.length hq
     have l1:=ar8 true lo hi (spl 44 l) (i+1)
     have et:(spl 44 l).take (i+1)=(spl 44 l).take i++[w0]:=by rw[b7,ew];rfl
     rw[et,ajQ em ek,bC,cL] at l1
     have hm20:=hok.most
     refine⟨_,rfl,rfl,_,rfl,ifF rfl ⟨_,rfl,mk,_,rfl,.inl (SqL.of (s24 _ _ h2m)),rfl,_,rfl,?_⟩⟩
     refine ifI (fun c=>?_) (fun c=>?_)
     ·rw[aU] at c
      omega
     refine⟨_,rfl,.inl ⟨rfl,_,SqL.of (s24 _ _ h2m)⟩,_,rfl,mk,_,_,rfl,rfl,s24 _ _ h2m,(by rw[aU,dZ];omega),?_⟩
     have kp:=alI (l':=qs.map V.ref++[.ref x]) (s24 _ _ h2m)
     exact⟨_,_,_,_,qs++[x],by rw[et,ayD em];rfl,ab7 hmk (s2.trans s24),by rw[aaF hne];exact s24 _ _ h2c,by rw[bH];exact aaA,by rw[et,ajQ em ek];exact Ft.app (hq4.keepM kp) (.cons (hx.keep kp) .nil)⟩
 case done=>
  rintro σ H2 ⟨u1,u2,u3,u4,qs,rfl,s2,h2c,h2m,hq⟩
  refine⟨_,rfl,ps,_,rfl,.inl (SqL.of (s2 _ _ aaA)),_,_,rfl,rfl,_,rfl,?_⟩
  have hfew:=hok.few
  rw[eF (show ¬(40:Int)<((((spl 44 l).map fun q=>V.str (Tx q)).length:Nat):Int) by rw[aU];omega)]
  rw[aU,cF] at hq ⊢
  refine aa1 ⟨_,rfl,_,rfl,(zL 2),fun p hp=>?_⟩
  have s3:=aaB hp (.tup [.int (orM (plP lo hi (spl 44 l))),.ref mk])
  exact q p mk qs _ (none_of s0 hmk) (s0.trans (s2.trans s3)) aaA (s3 _ _ h2m) (hq.keepM s3.keep)
theorem aoD:Df P w K mg base "read_days" 8 ["text"] (aoI K aB aE aF aH aD aA aG aI):=by
 refine ZZ.da.dfs sc_read_days (fun vs H Q E h=>?_) (fun f cdv A outer s H vs Q E hr h=>?_)
 ·obtain⟨_,rfl,_⟩:=h
  rfl
 obtain⟨l,rfl,hok,q1,q2⟩:=h
 refine⟨_,(ssC (aaJ 1 (eD (afB ZZ) hr (aC (v_ 0) (aC eI (aC (eGl (v:=.int 31) ZZ.bd ⟨_,rfl⟩) (aC (eGl (v:=.ref aO) ZZ.a2 rfl) aN))))) sc_read_days.nd)
   (ssC (sIf (tCm oEq (v_ 0) (eSx [42])) (ss1 (aaH eN)) ssN)
   (ssC (sIf (tCm oEq (eIx xT (v_ 1) eI) eI) (ss1 (aaH (eIx xT (v_ 1) eI))) ssN)
   (ss1 (aaH (eOp aLE (ab0 (aC (eMk ZZ.aq (aeY ZZ) hr (aC (eIx xT (v_ 1) eI) aN)) aN)) (eIx xT (v_ 1) eI))))))),?_⟩
 refine⟨_,rfl,l,1,31,false,rfl,⟨by decide,by decide,by decide⟩,hok,fun p m qs H1 hmn s1 hp hm hq=>?_⟩
 have lq:qs.length<=20:=by
  have:=Paired.length hq
  have:=hok.most
  omega
 refine⟨_,rfl,rfl,_,rfl,ifX (fun c=>q1 c _ s1) (fun c=>?_)⟩
 have q2:=q2 c
 unfold aj2 at q2
 generalize mkP false 1 31 (spl 44 l)=ms at hq q2
 generalize orM (plP 1 31 (spl 44 l))=M at hp q2
 refine⟨_,rfl,p,_,_,_,rfl,rfl,SqT.of hp,rfl,rfl,_,rfl,ifI (fun c0=>⟨_,rfl,p,_,_,_,rfl,rfl,SqT.of hp,rfl,q2 m qs _ hmn s1 hm ?_⟩) (fun c0=>?_)⟩
 ·have e:afN false M=[]:=by unfold afN;rw[if_pos c0]
  rw[e]
  exact hq
 have e:afN false M=[.num M]:=by unfold afN;rw[if_neg c0];rfl
 rw[e] at q2
 refine⟨_,rfl,p,_,_,_,rfl,rfl,SqT.of hp,rfl,fun xo dx nx ndx nex=>⟨xo,dx,_,rfl,aaA,rfl,(zL 1),fun l1 hl1=>?_⟩⟩
 have n1:Same H1 (upd (upd (upd H1 dx (.own xo)) xo (.ins aB dx [])) xo (.ins aB dx [("mask",.int M)])):=acR nx ndx
 have n2:=n1.trans (aaB hl1 (.lst [.ref xo]))
 refine⟨_,rfl,p,_,_,_,rfl,rfl,SqT.of (n2 _ _ hp),rfl,l1,m,_,_,rfl,rfl,aaA,n2 _ _ hm,(by rw[aU,dZ];show 1+_<=_;omega),fun l2 hl2=>?_⟩
 have n3:=n2.trans (aaB hl2 (.lst ([.ref xo]++qs.map V.ref)))
 exact q2 l2 (xo::qs) _ (none_of (s1.trans n2) hl2) (s1.trans n3) aaA (.cons ⟨dx,(aaB hl2 _) _ _ ((aaB hl1 _) _ _ aaA)⟩ (hq.keepM n3.keep))
theorem ahP:Df P w K mg base "read_weekdays" 8 ["text"] (ahQ K aB aE aF aH aD aA aG aI):=by
 refine ZZ.bz.dfs sc_read_weekdays (fun vs H Q E h=>?_) (fun f cdv A outer s H vs Q E hr h=>?_)
 ·obtain⟨_,rfl,_⟩:=h
  rfl
 obtain⟨l,rfl,hok,q1,q2⟩:=h
 refine⟨_,(ssC (aaJ 1 (eD (afB ZZ) hr (aC (v_ 0) (aC eI (aC (eGl (v:=.int 7) ZZ.ak ⟨_,rfl⟩) (aC (eGl (v:=.ref aP) ZZ.ap rfl) aN))))) sc_read_weekdays.nd)
   (ssC (sIf (tCm oEq (v_ 0) (eSx [42])) (ss1 (aaH eN)) ssN)
   (ssC (sIf (tCm oEq (eIx xT (v_ 1) eI) eI) (ss1 (aaH (eIx xT (v_ 1) eI))) ssN)
   (ssC (aaJ 2 (eOp awP (eOp oOr (eIx xT (v_ 1) eI) (eOp azC (eIx xT (v_ 1) eI) (eGl (v:=.int 7) ZZ.ak ⟨_,rfl⟩))) (eGl (v:=.int 127) ZZ.b2 ⟨_,rfl⟩)) sc_read_weekdays.nd)
   (ss1 (aaH (eOp aLE (ab0 (aC (eMk ZZ.an (aeA ZZ) hr (aC (v_ 2) aN)) aN)) (eIx xT (v_ 1) eI)))))))),?_⟩
 refine⟨_,rfl,l,0,7,true,rfl,⟨by decide,by decide,by decide⟩,hok,fun p m qs H1 hmn s1 hp hm hq=>?_⟩
 have lq:qs.length<=20:=by
  have:=Paired.length hq
  have:=hok.most
  omega
 refine⟨_,rfl,rfl,_,rfl,ifX (fun c=>q1 c _ s1) (fun c=>?_)⟩
 have q2:=q2 c
 unfold aj2 at q2
 generalize mkP true 0 7 (spl 44 l)=ms at hq q2
 generalize orM (plP 0 7 (spl 44 l))=M at hp q2
 refine⟨_,rfl,p,_,_,_,rfl,rfl,SqT.of hp,rfl,rfl,_,rfl,ifI (fun c0=>⟨_,rfl,p,_,_,_,rfl,rfl,SqT.of hp,rfl,q2 m qs _ hmn s1 hm ?_⟩) (fun c0=>?_)⟩
 ·have e:afN true M=[]:=by unfold afN;rw[if_pos c0]
  rw[e]
  exact hq
 have e:afN true M=[.wkd (wk7 M)]:=by unfold afN;rw[if_neg c0];rfl
 rw[e] at q2
 refine⟨_,rfl,p,_,_,_,rfl,rfl,SqT.of hp,rfl,_,rfl,p,_,_,_,rfl,rfl,SqT.of hp,rfl,_,_,rfl,rfl,(by show (0:Int)<=7;decide),_,_,rfl,rfl,_,_,rfl,rfl,?_⟩
 refine⟨_,rfl,fun xo dx nx ndx nex=>⟨xo,dx,_,rfl,aaA,rfl,(zL 1),fun l1 hl1=>?_⟩⟩
 have n1:Same H1 (upd (upd (upd H1 dx (.own xo)) xo (.ins aD dx [])) xo (.ins aD dx [("mask",.int (wk7 M))])):=acR nx ndx
 have n2:=n1.trans (aaB hl1 (.lst [.ref xo]))
 refine⟨_,rfl,p,_,_,_,rfl,rfl,SqT.of (n2 _ _ hp),rfl,l1,m,_,_,rfl,rfl,aaA,n2 _ _ hm,(by rw[aU,dZ];show 1+_<=_;omega),fun l2 hl2=>?_⟩
 have n3:=n2.trans (aaB hl2 (.lst ([.ref xo]++qs.map V.ref)))
 exact q2 l2 (xo::qs) _ (none_of (s1.trans n2) hl2) (s1.trans n3) aaA (.cons ⟨dx,(aaB hl2 _) _ _ ((aaB hl1 _) _ _ aaA)⟩ (hq.keepM n3.keep))
theorem ad7:Df P w K mg base "month_at" 3 ["kind"] (apZ K):=by
 refine ZZ.dw.dfs sc_month_at (fun vs H Q E h=>?_) (fun f cdv A outer s H vs Q E hr h=>?_)
 ·obtain⟨_,rfl,_⟩:=h
  rfl
 obtain⟨k,rfl,hk,q⟩:=h
 refine⟨_,(ssC (aaJ 1 (eOp ajI (v_ 0) eI) sc_month_at.nd)
   (ssC (aaJ 2 (eOp ab3 (v_ 0) eI) sc_month_at.nd)
   (ssC (sIf (tCm oEq (v_ 1) (eGl (v:=.int 12) ZZ.a8 ⟨_,rfl⟩)) (ss1 (aaH (abN (aC eI (aC (eGl (v:=.int 29) ZZ.c3 ⟨_,rfl⟩) (aC (v_ 2) aN)))))) ssN)
   (ss1 (aaH (abN (aC (eOp aa2 (v_ 1) eI) (aC (eD (acI ZZ) hr (aC (eGl (v:=.int 1) ZZ.cp ⟨_,rfl⟩) (aC (eOp aa2 (v_ 1) eI) aN))) (aC (v_ 2) aN))))))))),?_⟩
 refine⟨_,rfl,_,_,rfl,rfl,⟨by decide,by decide⟩,?_⟩
 refine⟨_,rfl,_,_,rfl,rfl,(by show (0:Int)<7;decide),?_⟩
 refine⟨_,rfl,rfl,_,rfl,ifI (fun c=>?_) (fun c=>?_)⟩
 ·refine⟨_,rfl,(zL 3),fun p hp=>?_⟩
  exact q p _ (aaB hp _) (by unfold aj4;rw[if_pos c];exact aaA)
 ·refine⟨_,rfl,_,_,rfl,rfl,_,rfl,_,_,rfl,rfl,_,_,rfl,⟨by omega,by omega⟩,_,rfl,(zL 3),fun p hp=>?_⟩
  exact q p _ (aaB hp _) (by unfold aj4;rw[if_neg c];exact aaA)
theorem asE:Df P w K mg base "times_of" 3 ["hours","minutes"] (arQ K):=by
 refine ZZ.dx.dfs sc_times_of (fun vs H Q E h=>?_) (fun f cdv A outer s H vs Q E hr h=>?_)
 ·obtain⟨_,_,rfl,_⟩:=h
  rfl
 obtain⟨h,m,rfl,hh,hm,q⟩:=h
 refine⟨_,(ssC (aaJ 2 eI sc_times_of.nd)
   (ssC (acZ (iL (eD (al4 ZZ) hr (aC (v_ 0) aN))) (gN 3 sc_times_of.nd) (ss1 (aaJ 2 (eOp oOr (v_ 2) (eOp amA (v_ 1) (eOp af3 (eGl (v:=.int 60) ZZ.ae ⟨_,rfl⟩) (v_ 3)))) sc_times_of.nd)) PassesOwn.never)
   (ss1 (aaH (v_ 2))))),?_⟩
 have bh:=ajR hh.1 hh.2
 have bm:=ajR hm.1 hm.2
 refine⟨_,rfl,h,rfl,⟨hh.1,by omega⟩,fun p H1 s1 h1=>⟨p,rfl,⟨_,SqL.of h1⟩,abX (K:=K) (a:=p) (xs:=(arO h).map V.int) (fun i σ H2=>∃(v3:Option V),σ=[some (.int h),some (.int m),some (.int (orM (((arO h).take i).map fun z=>m*2^(60*z).toNat))),v3]/\Same H1 H2) ⟨_,rfl,Same.refl _⟩ (fun i σ H2 _ ⟨_,_,s2⟩=>SqL.of (s2 _ _ h1)) ?turn ?done⟩⟩
 case done=>
  rintro σ H2 ⟨v3,rfl,s2⟩
  rw[aU,cF]
  exact⟨_,rfl,q _ H2 rfl (s1.trans s2)⟩
 case turn=>
  rintro i x σ H2 hx ⟨v3,rfl,s2⟩
  rw[bA] at hx
  cases ez:(arO h)[i]? with
  |none=>rw[ez] at hx;cases hx
  |some z=>
   rw[ez] at hx
   obtain rfl:V.int z=x:=a8 hx
   have et:orM (((arO h).take (i+1)).map fun z=>m*2^(60*z).toNat)=Builtin.bitOr (orM (((arO h).take i).map fun z=>m*2^(60*z).toNat)) (m*2^(60*z).toNat):=by rw[b7,ez,bH];exact aeI _ _
   rw[et]
   have hz:=bI ez
   rw[anW hh.1 hh.2] at hz
   obtain⟨n,hn,_,rfl⟩:=flt_mem.mp hz
   refine⟨_,rfl,_,rfl,_,rfl,_,_,rfl,rfl,.inl ⟨by decide,by decide⟩,_,_,rfl,rfl,⟨?_,?_,?_⟩,_,_,rfl,rfl,?_⟩
   ·omega
   ·omega
   ·omega
   ·exact⟨_,rfl,s2⟩
theorem at9:Df P w K mg base "days_by" 5 ["days","weekdays","last","first"] (asZ K aB aE aF aH aD aA aG aI):=by
 refine ZZ.ee.dfs sc_days_by (fun vs H Q E h=>?_) (fun f cdv A outer s H vs Q E hr h=>?_)
 ·obtain⟨_,_,_,_,_,_,rfl,_⟩:=h
  rfl
 obtain⟨dv,wv,kd,kw,l,fi,rfl,hd,hw,hlf,q⟩:=h
 refine⟨_,(ssC (sIf (tW (anN (tCm ac4 (v_ 0) eN) (ah8 (tCm ac4 (v_ 1) eN)))) (ss1 (aaH (eD (aeO ZZ) hr (aC (v_ 2) aN)))) ssN)
   (ssC (aaJ 4 eI sc_days_by.nd)
   (ssC (acZ (iT (abN (aC (v_ 0) (aC (v_ 1) aN)))) (gN 5 sc_days_by.nd) (ss1 (sIf (tCm aGX (v_ 5) eN) (ss1 (aaJ 4 (eOp oOr (v_ 4) (eD (aqW ZZ) hr (aC (v_ 5) (aC (v_ 2) (aC (v_ 3) aN))))) sc_days_by.nd)) ssN)) PassesOwn.never)
   (ss1 (aaH (v_ 4)))))),?_⟩
 have loop:kd.isNone=false∨kw.isNone=false->aaY kd kw l fi=orO kw (orO kd 0 l fi) l fi:=fun h=>by
  unfold aaY
  rw[if_neg]
  rintro⟨h1,h2⟩
  rcases h with h | h
  ·rw[h] at h1;cases h1
  ·rw[h] at h2;cases h2
 cases kd with
 |none=>
  have ed:dv=.non:=hd
  subst ed
  cases kw with
  |none=>
   have ew:wv=.non:=hw
   subst ew
   refine⟨_,rfl,rfl,_,rfl,?_⟩
   show if decide (V.non=V.non)=true then _ else _
   rw[eC rfl]
   refine abF ⟨_,rfl,rfl,_,rfl,?_⟩
   show if decide (V.non=V.non)=true then _ else _
   rw[eC rfl]
   exact abF ⟨_,rfl,l,rfl,hlf.1,q H (Same.refl _)⟩
  |some kw=>
   rw[loop (.inr rfl)] at q
   refine⟨_,rfl,rfl,_,rfl,?_⟩
   show if decide (V.non=V.non)=true then _ else _
   rw[eC rfl]
   obtain⟨pw,qw,rfl,lw,fw,ow⟩:=hw
   refine abF ⟨_,rfl,rfl,_,rfl,aa1 ?_⟩
   refine⟨_,rfl,_,rfl,(zL 2),fun tt ht=>⟨tt,rfl,⟨_,SqT.of aaA⟩,anP (K:=K) (a:=tt) (xs:=[V.non,(V.ref pw)]) (fun i σ H2=>∃v5:Option V,σ=[some V.non,some (V.ref pw),some (.int l),some (.int fi),some (.int (match i with | 0=>0 | 1=>orO none 0 l fi | _=>orO (some kw) (orO none 0 l fi) l fi)),v5]/\Same (upd H tt (.tup [V.non,(V.ref pw)])) H2) ⟨_,rfl,Same.refl _⟩ (fun i σ H2 _ ⟨_,_,s2⟩=>SqT.of (s2 _ _ aaA)) ?turn ?done⟩⟩
   case done=>
    rintro σ H2 ⟨v5,rfl,s2⟩
    exact⟨_,rfl,q H2 ((aaB ht _).trans s2)⟩
   case turn=>
    rintro i x σ H2 hx ⟨v5,rfl,s2⟩
    have sA:=(aaB ht (.tup [V.non,(V.ref pw)])).trans s2
    match i,hx with
    |0,hx=>
     cases hx
     refine⟨_,rfl,rfl,_,rfl,?_⟩
     show if (!decide (V.non=V.non))=true then _ else _
     rw[eC rfl]
     exact aa1 ⟨_,rfl,s2⟩
    |1,hx=>
     cases hx
     exact⟨_,rfl,rfl,_,rfl,abF ⟨_,rfl,_,rfl,_,rfl,_,rfl,pw,qw,kw,l,fi,rfl,SqL.of (sA _ _ lw),fw.keepM sA.keep,ow,hlf,_,_,rfl,rfl,⟨_,rfl,s2⟩⟩⟩
    |i+2,hx=>cases hx
 |some kd=>
  rw[loop (.inl rfl)] at q
  obtain⟨pd,qd,rfl,ld,fd,od⟩:=hd
  refine⟨_,rfl,rfl,_,rfl,aa1 ?_⟩
  cases kw with
  |none=>
   have ew:wv=.non:=hw
   subst ew
   refine⟨_,rfl,_,rfl,(zL 2),fun tt ht=>⟨tt,rfl,⟨_,SqT.of aaA⟩,anP (K:=K) (a:=tt) (xs:=[(V.ref pd),V.non]) (fun i σ H2=>∃v5:Option V,σ=[some (V.ref pd),some V.non,some (.int l),some (.int fi),some (.int (match i with | 0=>0 | 1=>orO (some kd) 0 l fi | _=>orO none (orO (some kd) 0 l fi) l fi)),v5]/\Same (upd H tt (.tup [(V.ref pd),V.non])) H2) ⟨_,rfl,Same.refl _⟩ (fun i σ H2 _ ⟨_,_,s2⟩=>SqT.of (s2 _ _ aaA)) ?turn ?done⟩⟩
   case done=>
    rintro σ H2 ⟨v5,rfl,s2⟩
    exact⟨_,rfl,q H2 ((aaB ht _).trans s2)⟩
   case turn=>
    rintro i x σ H2 hx ⟨v5,rfl,s2⟩
    have sA:=(aaB ht (.tup [(V.ref pd),V.non])).trans s2
    match i,hx with
    |0,hx=>
     cases hx
     exact⟨_,rfl,rfl,_,rfl,abF ⟨_,rfl,_,rfl,_,rfl,_,rfl,pd,qd,kd,l,fi,rfl,SqL.of (sA _ _ ld),fd.keepM sA.keep,od,hlf,_,_,rfl,rfl,⟨_,rfl,s2⟩⟩⟩
    |1,hx=>
     cases hx
     refine⟨_,rfl,rfl,_,rfl,?_⟩
     show if (!decide (V.non=V.non))=true then _ else _
     rw[eC rfl]
     exact aa1 ⟨_,rfl,s2⟩
    |i+2,hx=>cases hx
  |some kw=>
   obtain⟨pw,qw,rfl,lw,fw,ow⟩:=hw
   refine⟨_,rfl,_,rfl,(zL 2),fun tt ht=>⟨tt,rfl,⟨_,SqT.of aaA⟩,anP (K:=K) (a:=tt) (xs:=[(V.ref pd),(V.ref pw)]) (fun i σ H2=>∃v5:Option V,σ=[some (V.ref pd),some (V.ref pw),some (.int l),some (.int fi),some (.int (match i with | 0=>0 | 1=>orO (some kd) 0 l fi | _=>orO (some kw) (orO (some kd) 0 l fi) l fi)),v5]/\Same (upd H tt (.tup [(V.ref pd),(V.ref pw)])) H2) ⟨_,rfl,Same.refl _⟩ (fun i σ H2 _ ⟨_,_,s2⟩=>SqT.of (s2 _ _ aaA)) ?turn ?done⟩⟩
   case done=>
    rintro σ H2 ⟨v5,rfl,s2⟩
    exact⟨_,rfl,q H2 ((aaB ht _).trans s2)⟩
   case turn=>
    rintro i x σ H2 hx ⟨v5,rfl,s2⟩
    have sA:=(aaB ht (.tup [(V.ref pd),(V.ref pw)])).trans s2
    match i,hx with
    |0,hx=>
     cases hx
     exact⟨_,rfl,rfl,_,rfl,abF ⟨_,rfl,_,rfl,_,rfl,_,rfl,pd,qd,kd,l,fi,rfl,SqL.of (sA _ _ ld),fd.keepM sA.keep,od,hlf,_,_,rfl,rfl,⟨_,rfl,s2⟩⟩⟩
    |1,hx=>
     cases hx
     exact⟨_,rfl,rfl,_,rfl,abF ⟨_,rfl,_,rfl,_,rfl,_,rfl,pw,qw,kw,l,fi,rfl,SqL.of (sA _ _ lw),fw.keepM sA.keep,ow,hlf,_,_,rfl,rfl,⟨_,rfl,s2⟩⟩⟩
    |i+2,hx=>cases hx
theorem aiU:DfM P w K mg base aJ "__init__" 4 ["self","fields"] (ai3 K aJ):=by
 refine ZZ.b9.dfs aiT (fun vs H Q E h=>?_) (fun f cdv A outer s H vs Q E hr h=>?_)
 ·obtain⟨_,_,_,_,_,_,_,_,rfl,_⟩:=h
  rfl
 obtain⟨p,dx,fa,m0,m1,m3,dv,wv,rfl,hp,hf,h0,h1,q⟩:=h
 refine⟨_,(ssC (sFl (v_ 0) (eIx xL (v_ 1) (eGl (v:=.int 0) ZZ.eh ⟨_,rfl⟩)))
   (ssC (sFl (v_ 0) (eIx xL (v_ 1) (eGl (v:=.int 1) ZZ.es ⟨_,rfl⟩)))
   (ssC (sFl (v_ 0) (eIx xL (v_ 1) (eGl (v:=.int 2) ZZ.dk ⟨_,rfl⟩)))
   (ssC (sFl (v_ 0) (eIx xL (v_ 1) (eGl (v:=.int 3) ZZ.en ⟨_,rfl⟩)))
   (ssC (sFl (v_ 0) (eIx xL (v_ 1) (eGl (v:=.int 4) ZZ.bk ⟨_,rfl⟩)))
   (ss1 (sFl (v_ 0) (eD (asE ZZ) hr (aC (eFl (v_ 0)) (aC (eFl (v_ 0)) aN)))))))))),?_⟩
 have hfp:fa≠p:=fun e=>by rw[e,hp] at hf;cases hf
 have g0:H fa=some (.lst [.int m0,.int m1,dv,.int m3,wv]):=hf
 have g1:(upd H p (.ins aJ dx (aaU "minute_mask" (.int m0) []))) fa=some (.lst [.int m0,.int m1,dv,.int m3,wv]):=by rw[aaF hfp];exact g0
 have g2:(upd (upd H p (.ins aJ dx (aaU "minute_mask" (.int m0) []))) p (.ins aJ dx (aaU "hour_mask" (.int m1) (aaU "minute_mask" (.int m0) [])))) fa=some (.lst [.int m0,.int m1,dv,.int m3,wv]):=by rw[aaF hfp];exact g1
 have g3:(upd (upd (upd H p (.ins aJ dx (aaU "minute_mask" (.int m0) []))) p (.ins aJ dx (aaU "hour_mask" (.int m1) (aaU "minute_mask" (.int m0) [])))) p (.ins aJ dx (aaU "day_marks" dv (aaU "hour_mask" (.int m1) (aaU "minute_mask" (.int m0) []))))) fa=some (.lst [.int m0,.int m1,dv,.int m3,wv]):=by rw[aaF hfp];exact g2
 have g4:(upd (upd (upd (upd H p (.ins aJ dx (aaU "minute_mask" (.int m0) []))) p (.ins aJ dx (aaU "hour_mask" (.int m1) (aaU "minute_mask" (.int m0) [])))) p (.ins aJ dx (aaU "day_marks" dv (aaU "hour_mask" (.int m1) (aaU "minute_mask" (.int m0) []))))) p (.ins aJ dx (aaU "month_mask" (.int m3) (aaU "day_marks" dv (aaU "hour_mask" (.int m1) (aaU "minute_mask" (.int m0) [])))))) fa=some (.lst [.int m0,.int m1,dv,.int m3,wv]):=by rw[aaF hfp];exact g3
 have g5:(upd (upd (upd (upd (upd H p (.ins aJ dx (aaU "minute_mask" (.int m0) []))) p (.ins aJ dx (aaU "hour_mask" (.int m1) (aaU "minute_mask" (.int m0) [])))) p (.ins aJ dx (aaU "day_marks" dv (aaU "hour_mask" (.int m1) (aaU "minute_mask" (.int m0) []))))) p (.ins aJ dx (aaU "month_mask" (.int m3) (aaU "day_marks" dv (aaU "hour_mask" (.int m1) (aaU "minute_mask" (.int m0) [])))))) p (.ins aJ dx (aaU "weekday_marks" wv (aaU "month_mask" (.int m3) (aaU "day_marks" dv (aaU "hour_mask" (.int m1) (aaU "minute_mask" (.int m0) []))))))) fa=some (.lst [.int m0,.int m1,dv,.int m3,wv]):=by rw[aaF hfp];exact g4
 have l5:∀(f:Str) (v:V),(abZ m0 m1 dv m3 wv 0).lookup f=some v->f≠"time_mask"->(aaU "weekday_marks" wv (aaU "month_mask" (.int m3) (aaU "day_marks" dv (aaU "hour_mask" (.int m1) (aaU "minute_mask" (.int m0) []))))).lookup f=some v:=fun f v h hne=>by
  unfold abZ at h
  rw[aaE,if_neg hne] at h
  exact h
 refine⟨_,rfl,fa,_,_,_,rfl,rfl,SqL.of g0,rfl,_,rfl,p,aJ,dx,_,rfl,hp,ZZ.ab.cl,ZZ.ah,(by show 0<1000;decide),_,rfl,fa,_,_,_,rfl,rfl,SqL.of g1,rfl,_,rfl,p,aJ,dx,_,rfl,aaA,ZZ.ab.cl,ZZ.al,(by show 1<1000;decide),_,rfl,fa,_,_,_,rfl,rfl,SqL.of g2,rfl,_,rfl,p,aJ,dx,_,rfl,aaA,ZZ.ab.cl,ZZ.a0,(by show 2<1000;decide),_,rfl,fa,_,_,_,rfl,rfl,SqL.of g3,rfl,_,rfl,p,aJ,dx,_,rfl,aaA,ZZ.ab.cl,ZZ.ai,(by show 3<1000;decide),_,rfl,fa,_,_,_,rfl,rfl,SqL.of g4,rfl,_,rfl,p,aJ,dx,_,rfl,aaA,ZZ.ab.cl,ZZ.ao,(by show 4<1000;decide),_,rfl,p,aJ,dx,_,_,rfl,aaA,ZZ.ab.cl,ZZ.al,l5 _ _ (aeP ..) (by decide +kernel),_,rfl,p,aJ,dx,_,_,rfl,aaA,ZZ.ab.cl,ZZ.ah,l5 _ _ (ac9 ..) (by decide +kernel),m1,m0,rfl,h1,h0,fun t HT ht sT=>?_⟩
 refine⟨_,rfl,p,aJ,dx,_,rfl,sT _ _ aaA,ZZ.ab.cl,ZZ.a1,(by show 5<1000;decide),q t _ ht aaA fun b o hb hne=>?_⟩
 rw[aaF hne]
 refine sT _ _ ?_
 rw[aaF hne,aaF hne,aaF hne,aaF hne,aaF hne]
 exact hb
theorem abV:DfM P w K mg base aJ "days_in" 6 ["self","kind"] (alG K aJ aB aE aF aH aD aA aG aI):=by
 refine ZZ.ci.dfs sc_Row_days_in (fun vs H Q E h=>?_) (fun f cdv A outer s H vs Q E hr h=>?_)
 ·obtain⟨_,_,_,_,_,_,_,_,_,_,_,rfl,_⟩:=h
  rfl
 obtain⟨p,dx,m0,m1,m3,tm,k,dv,wv,kd,kw,rfl,hp,hk,hm,hd,hw,q⟩:=h
 refine⟨_,(ssC (aaJ 2 (eD (ad7 ZZ) hr (aC (v_ 1) aN)) sc_Row_days_in.nd)
   (ssC (sIf (tNo (tVa (eD (af2 ZZ) hr (aC (eFl (v_ 0)) (aC (eIx xT (v_ 2) eI) aN))))) (ss1 (aaH eI)) ssN)
   (ss1 (aaH (eD (at9 ZZ) hr (aC (eFl (v_ 0)) (aC (eFl (v_ 0)) (aC (eIx xT (v_ 2) eI) (aC (eIx xT (v_ 2) eI) aN))))))))),?_⟩
 have ml:=adH hk.1 hk.2
 refine⟨_,rfl,k,rfl,hk,fun t H1 s1 h1=>?_⟩
 rw[agG] at h1
 have hp1:=s1 _ _ hp
 refine⟨_,rfl,p,aJ,dx,_,_,rfl,hp1,ZZ.ab.cl,ZZ.ai,adK ..,_,rfl,t,_,_,_,rfl,rfl,SqT.of h1,rfl,m3,mnA k,rfl,⟨hm,by omega⟩,_,rfl,?_⟩
 by_cases c:tb m3 (mnA k).toNat=true
 ·rw[if_pos c] at q
  rw[c]
  refine aa1 ⟨_,rfl,p,aJ,dx,_,_,rfl,hp1,ZZ.ab.cl,ZZ.a0,ajW ..,_,rfl,p,aJ,dx,_,_,rfl,hp1,ZZ.ab.cl,ZZ.ao,afY ..,_,rfl,t,_,_,_,rfl,rfl,SqT.of h1,rfl,_,rfl,t,_,_,_,rfl,rfl,SqT.of h1,rfl,dv,wv,kd,kw,lnA k,k%7,rfl,hd.keep s1,hw.keep s1,ml.2,fun H' s'=>q H' (s1.trans s')⟩
 ·have c':tb m3 (mnA k).toNat=false:=by simpa using c
  rw[if_neg c] at q
  rw[c']
  exact abF (q H1 s1)
theorem aoC:Df P w K mg base "read_word" 9 ["word","place"] (apE K aB aE aF aH aD aA aG aI):=by
 refine ZZ.db.dfs sc_read_word (fun vs H Q E h=>?_) (fun f cdv A outer s H vs Q E hr h=>?_)
 ·obtain⟨_,_,rfl,_⟩:=h
  rfl
 obtain⟨t,pl,rfl,h⟩:=h
 refine⟨_,(ssC (sIf (tCm oEq (v_ 1) (eGl (v:=.int 2) ZZ.dk ⟨_,rfl⟩)) (ss1 (aaH (eD (aoD ZZ) hr (aC (v_ 0) aN)))) ssN)
   (ssC (sIf (tCm oEq (v_ 1) (eGl (v:=.int 4) ZZ.bk ⟨_,rfl⟩)) (ss1 (aaH (eD (ahP ZZ) hr (aC (v_ 0) aN)))) ssN)
   (ssC (aaJ 2 (eDgK (eGl (v:=.ref a_BOUNDS) ZZ.ei rfl) (v_ 1)) sc_read_word.nd)
   (ss1 (aaH (eD (al3 ZZ) hr (aC (v_ 0) (aC (eIx xT (v_ 2) eI) (aC (eIx xT (v_ 2) eI) aN))))))))),?_⟩
 rcases h with ⟨rfl,ko,hT,q⟩ | ⟨rfl,ko,hT,q⟩ | ⟨lo,hi,m,hp,hT,q⟩
 ·cases ko with
  |none=>
   have et:t=[42]:=hT.2.2
   exact⟨_,rfl,rfl,_,rfl,ifI (fun _=>⟨_,rfl,t,rfl,hT.2.1,(fun _ H' s'=>q _ H' s' rfl (fun p e=>nomatch e)),(fun c=>absurd et c)⟩) (fun c=>absurd rfl c)⟩
  |some ks=>
   exact⟨_,rfl,rfl,_,rfl,ifI (fun _=>⟨_,rfl,t,rfl,hT.2.1,(fun e=>absurd e hT.2.2.1),(fun _ m qs H' hm s' hl hF=>q _ H' s' ⟨m,qs,rfl,hl,by rw[←hT.2.2.2.2];exact hF,fun k hk=>(akU hT.2.2.2.1 k hk).2.2⟩ (fun p e=>by cases e;exact hm))⟩) (fun c=>absurd rfl c)⟩
 ·cases ko with
  |none=>
   have et:t=[42]:=hT.2.2
   exact⟨_,rfl,rfl,_,rfl,ifI (fun c=>absurd c (by decide)) (fun _=>⟨_,rfl,rfl,_,rfl,ifI (fun _=>⟨_,rfl,t,rfl,hT.2.1,(fun _ H' s'=>q _ H' s' rfl (fun p e=>nomatch e)),(fun c=>absurd et c)⟩) (fun c=>absurd rfl c)⟩)⟩
  |some ks=>
   exact⟨_,rfl,rfl,_,rfl,ifI (fun c=>absurd c (by decide)) (fun _=>⟨_,rfl,rfl,_,rfl,ifI (fun _=>⟨_,rfl,t,rfl,hT.2.1,(fun e=>absurd e hT.2.2.1),(fun _ m qs H' hm s' hl hF=>q _ H' s' ⟨m,qs,rfl,hl,by rw[←hT.2.2.2.2];exact hF,fun k hk=>(akU hT.2.2.2.1 k hk).2.2⟩ (fun p e=>by cases e;exact hm))⟩) (fun c=>absurd rfl c)⟩)⟩
 ·have hl:=hT.len
  have hne:pl≠2/\pl≠4:=by omega
  rcases hp with ⟨rfl,rfl,rfl⟩ | ⟨rfl,rfl,rfl⟩ | ⟨rfl,rfl,rfl⟩
  ·exact⟨_,rfl,rfl,_,rfl,ifI (fun c=>absurd c (by decide)) (fun _=>⟨_,rfl,rfl,_,rfl,ifI (fun c=>absurd c (by decide)) (fun _=>⟨_,rfl,a_BOUNDS,_,_,_,rfl,ZZ.ba,rfl,rfl,_,rfl,_,rfl,a_BOUNDS_0,_,_,_,rfl,rfl,ZZ.be _,rfl,_,rfl,a_BOUNDS_0,_,_,_,rfl,rfl,ZZ.be _,rfl,t,_,_,rfl,hl,⟨by decide,by decide,by decide⟩,hT.ok,fun H' s'=>by rw[hT.is];exact q H' s'⟩)⟩)⟩
  ·exact⟨_,rfl,rfl,_,rfl,ifI (fun c=>absurd c (by decide)) (fun _=>⟨_,rfl,rfl,_,rfl,ifI (fun c=>absurd c (by decide)) (fun _=>⟨_,rfl,a_BOUNDS,_,_,_,rfl,ZZ.ba,rfl,rfl,_,rfl,_,rfl,a_BOUNDS_1,_,_,_,rfl,rfl,ZZ.bf _,rfl,_,rfl,a_BOUNDS_1,_,_,_,rfl,rfl,ZZ.bf _,rfl,t,_,_,rfl,hl,⟨by decide,by decide,by decide⟩,hT.ok,fun H' s'=>by rw[hT.is];exact q H' s'⟩)⟩)⟩
  ·exact⟨_,rfl,rfl,_,rfl,ifI (fun c=>absurd c (by decide)) (fun _=>⟨_,rfl,rfl,_,rfl,ifI (fun c=>absurd c (by decide)) (fun _=>⟨_,rfl,a_BOUNDS,_,_,_,rfl,ZZ.ba,rfl,rfl,_,rfl,_,rfl,a_BOUNDS_3,_,_,_,rfl,rfl,ZZ.bg _,rfl,_,rfl,a_BOUNDS_3,_,_,_,rfl,rfl,ZZ.bg _,rfl,t,_,_,rfl,hl,⟨by decide,by decide,by decide⟩,hT.ok,fun H' s'=>by rw[hT.is];exact q H' s'⟩)⟩)⟩
theorem atR:Df P w K mg base "read_at" 10 ["word","place"] (auA K aB aE aF aH aD aA aG aI):=by
 refine ZZ.ef.dfs asS (fun vs H Q E h=>?_) (fun f cdv A outer s H vs Q E hr h=>?_)
 ·obtain⟨_,_,rfl,_⟩:=h
  rfl
 obtain⟨t,pl,rfl,h⟩:=h
 refine⟨_,(ss1 (aLF (ss1 (aaH (eD (aoC ZZ) hr (aC (v_ 0) (aC (v_ 1) aN))))))),?_⟩
 exact⟨_,rfl,_,rfl,t,pl,rfl,h⟩
theorem aqY:Df P w K mg base "read_row" 11 ["text"] (aq5 K aB aE aF aH aD aA aG aI aJ):=by
 refine ZZ.dy.dfs sc_read_row (fun vs H Q E h=>?_) (fun f cdv A outer s H vs Q E hr h=>?_)
 ·obtain⟨_,_,_,_,_,_,_,_,_,_,rfl,_⟩:=h
  rfl
 obtain⟨w0,w1,w2,w3,w4,m0,m1,m3,kd,kw,rfl,f0,f1,f3,d2,d4,hb,q⟩:=h
 refine⟨_,(ssC (sIf (tW (wOr (tNo (tVa (eCB cIs ZZ.ad PyProof.Rows.boot_isinstance (aC (v_ 0) (aC (eTy ZZ.ag PyProof.Rows.boot_str) aN))))) (ak2 (tCm oGt (eCB az9 ZZ.af PySem.boot_len (aC (v_ 0) aN)) (eGl (v:=.int 1600) ZZ.bq ⟨_,rfl⟩))))) (ss1 an9) ssN)
   (ssC (aaJ 1 (axK (v_ 0) (eSx [32])) sc_read_row.nd)
   (ssC (sIf (tW (wOr (tCm oNe (eCB amB ZZ.af PySem.boot_len (aC (v_ 1) aN)) (eGl (v:=.int 5) ZZ.dl ⟨_,rfl⟩)) (ak2 (tCm oIn (eSx []) (v_ 1))))) (ss1 an9) ssN)
   (ss1 (aaH (eMk ZZ.ab (aiU ZZ) hr (aC (aE6 ["place","word"] [] [] (iE ZZ.am (v_ 1)) (fun _ _ _ _ _ _=>gTuc (K:=K) (n:=2) (gsC (gN 0 (show ((["place","word"]:List Str)++([]:List Str)).Nodup by decide +kernel)) (gsC (gN 1 (show ((["place","word"]:List Str)++([]:List Str)).Nodup by decide +kernel)) gsN))) (fun _ _ _ _ _ _=>fsN) (fun _ _ _ _ _ _=>(eD (atR ZZ) hr (aC (v_ 1) (aC (v_ 0) aN))))) aN))))))),?_⟩
 have n32:∀w∈[w0,w1,w2,w3,w4],32∉w:=fun w hw=>by
  simp only[aY,cA,or_false] at hw
  rcases hw with rfl | rfl | rfl | rfl | rfl
  ·exact f0.sp
  ·exact f1.sp
  ·exact d2.1.1
  ·exact f3.sp
  ·exact d4.1.1
 have nn:∀w∈[w0,w1,w2,w3,w4],w≠[]:=fun w hw=>by
  simp only[aY,cA,or_false] at hw
  rcases hw with rfl | rfl | rfl | rfl | rfl
  ·exact f0.ne
  ·exact f1.ne
  ·exact d2.1.2
  ·exact f3.ne
  ·exact d4.1.2
 have hs:=aeH 32 [w0,w1,w2,w3,w4] (c5 _ _) n32
 obtain⟨L,eL⟩:∃L,L=aaW 32 [w0,w1,w2,w3,w4]:=⟨_,rfl⟩
 have hl:L.length<=1600:=by
  have:=f0.len
  have:=f1.len
  have:=f3.len
  have:=d2.2.1.len
  have:=d4.2.1.len
  rw[eL]
  show (w0++32::(w1++32::(w2++32::(w3++32::w4)))).length<=1600
  simp only[bC,bX]
  omega
 rw[←eL] at hs ⊢
 refine⟨_,rfl,_,.str,.str,rfl,(by decide),rfl,_,rfl,ifF rfl ⟨_,rfl,L,rfl,(by rw[dZ];omega),_,_,rfl,rfl,_,rfl,?_⟩⟩
 rw[eF (show ¬(1600:Int)<((L.length:Nat):Int) by omega)]
 refine aa1 ⟨_,rfl,rfl,L,32,rfl,rfl,(by rw[dZ];omega),fun ps hps=>?_⟩
 rw[hs]
 have s0:=aaB hps (.lst ([w0,w1,w2,w3,w4].map fun q=>V.str (Tx q)))
 refine⟨_,rfl,ps,_,rfl,.inl (SqL.of aaA),rfl,_,rfl,ifNe rfl ⟨_,rfl,ps,_,rfl,.inl (SqL.of aaA),rfl,rfl,_,rfl,?_⟩⟩
 show if inV (.str (Tx [])) ([w0,w1,w2,w3,w4].map fun q=>V.str (Tx q))=true then _ else _
 rw[aBB nn]
 refine aa1 ⟨_,rfl,ps,rfl,⟨_,SqL.of aaA⟩,atP (xs:=[w0,w1,w2,w3,w4].map fun q=>V.str (Tx q)) (fun D i l H=>i=0/\l=[]∨(∃l',H D=some (.lst l'))/\RR (⟨aB,aE,aF,aH,aD,aA,aG,aI⟩:Cs) m0 m1 m3 (gO false kd) (gO true kw) D i l H) ?u1 ?u2 (zL 5) (fun D _=>.inl ⟨rfl,rfl⟩) (SqL.of aaA) ?st ?dn⟩
 case u1=>
  rintro D i l HX l' (h | ⟨hl,h⟩)
  ·exact .inl h
  ·exact .inr ⟨⟨_,aaA⟩,h.upd hl⟩
 case u2=>
  rintro D i l HX HY s (h | ⟨⟨l',hl⟩,h⟩)
  ·exact .inl h
  ·exact .inr ⟨⟨l',s _ _ hl⟩,h.keep s⟩
 case st=>
  intro i x l D H2 E' F' hx hR hD s2 hz hE hF
  have hR':RR (⟨aB,aE,aF,aH,aD,aA,aG,aI⟩:Cs) m0 m1 m3 (gO false kd) (gO true kw) D i l H2:=by
   rcases hR with ⟨rfl,rfl⟩ | h
   ·rfl
   ·exact h.2
  have up:∀{H5:Hp},Same H2 H5->∃l',H5 D=some (.lst l'):=fun s=>⟨_,s _ _ hz⟩
  have fr:∀{p:Addr},H2 p=none->p≠D:=fun h e=>by rw[e,hz] at h;cases h
  match i,hx,hR' with
  |0,hx,e=>cases hx;exact⟨_,rfl,_,rfl,w0,0,rfl,.inr (.inr ⟨0,59,m0,.inl ⟨rfl,rfl,rfl⟩,f0,fun H' s'=>hE _ _ s' (.inr ⟨up s',by rw[e];rfl⟩)⟩)⟩
  |1,hx,e=>cases hx;exact⟨_,rfl,_,rfl,w1,1,rfl,.inr (.inr ⟨0,23,m1,.inr (.inl ⟨rfl,rfl,rfl⟩),f1,fun H' s'=>hE _ _ s' (.inr ⟨up s',by rw[e];rfl⟩)⟩)⟩
  |2,hx,e=>cases hx;exact⟨_,rfl,_,rfl,w2,2,rfl,.inl ⟨rfl,kd,d2,fun v H' s' hv hn=>hE _ _ s' (.inr ⟨up s',v,by rw[e];rfl,hv,fun p ep=>fr (hn p ep)⟩)⟩⟩
  |3,hx,⟨dv,e,hd⟩=>cases hx;exact⟨_,rfl,_,rfl,w3,3,rfl,.inr (.inr ⟨1,12,m3,.inr (.inr ⟨rfl,rfl,rfl⟩),f3,fun H' s'=>hE _ _ s' (.inr ⟨up s',dv,by rw[e];rfl,hd.keep s'⟩)⟩)⟩
  |4,hx,⟨dv,e,hd⟩=>cases hx;exact⟨_,rfl,_,rfl,w4,4,rfl,.inr (.inl ⟨rfl,kw,d4,fun v H' s' hv hn=>hE _ _ s' (.inr ⟨up s',dv,v,by rw[e];rfl,hd.keep s',hv,fun p ep=>fr (hn p ep)⟩)⟩)⟩
  |i+5,hx,_=>cases hx
 case dn=>
  intro D H2 l hR hD s2 hz
  rcases hR with ⟨e,_⟩ | ⟨_,hR⟩
  ·cases e
  obtain⟨dv,wv,rfl,hd,hw⟩:=hR
  intro x dx nx ndx nex
  have n1:=akC (a:=.own x) (b:=.ins aJ dx []) nx ndx
  refine⟨x,dx,D,m0,m1,m3,dv,wv,rfl,aaA,n1 _ _ hz,⟨f0.nn,hb.1⟩,⟨f1.nn,hb.2⟩,fun tm H' htm hx' hs'=>⟨rfl,?_⟩⟩
  have sX:Same H2 H':=fun b o hb'=>hs' b o (n1 _ _ hb') (fun e=>by rw[e,nx] at hb';cases hb')
  exact q x dx dv wv tm H' htm (s0.trans (s2.trans sX)) hx' (hd.1.keep sX) (hw.1.keep sX)
theorem ak8:DfM P w K mg base aJ "shut_by" 7 ["self","moment"] (akO K aJ aB aE aF aH aD aA aG aI):=by
 refine ZZ.cj.dfs sc_Row_shut_by (fun vs H Q E h=>?_) (fun f cdv A outer s H vs Q E hr h=>?_)
 ·obtain⟨_,_,_,_,_,_,_,_,_,_,_,rfl,_⟩:=h
  rfl
 obtain⟨p,dx,m0,m1,m3,tm,mo,dv,wv,kd,kw,rfl,hp,hn,hd,hw,q⟩:=h
 refine⟨_,(ssC (aaJ 2 (eD (awR ZZ) hr (aC (v_ 1) aN)) sc_Row_shut_by.nd)
   (ssC (aaJ 3 (eD (afS ZZ) hr (aC (eIx xT (v_ 2) eI) aN)) sc_Row_shut_by.nd)
   (ssC (sIf (tNo (tVa (eD (af2 ZZ) hr (aC (eFl (v_ 0)) (aC (eIx xT (v_ 3) eI) aN))))) (ss1 (aaH (eSx [109,111,110,116,104]))) ssN)
   (ssC (sIf (tNo (tVa (eD (af2 ZZ) hr (aC (eMe ZZ.ab.cl (abV ZZ) hr (v_ 0) (aC (eD (adI ZZ) hr (aC (eIx xT (v_ 3) eI) (aC (eIx xT (v_ 3) eI) aN))) aN)) (aC (eIx xT (v_ 3) eI) aN))))) (ss1 (aaH (eSx [100,97,121]))) ssN)
   (ssC (sIf (tNo (tVa (eD (af2 ZZ) hr (aC (eFl (v_ 0)) (aC (eIx xT (v_ 2) eI) aN))))) (ss1 (aaH (eSx [104,111,117,114]))) ssN)
   (ssC (sIf (tNo (tVa (eD (af2 ZZ) hr (aC (eFl (v_ 0)) (aC (eIx xT (v_ 2) eI) aN))))) (ss1 (aaH (eSx [109,105,110,117,116,101]))) ssN)
   (ss1 (aaH eN)))))))),?_⟩
 refine⟨_,rfl,mo,rfl,fun t H1 s1 h1=>⟨_,rfl,t,_,_,_,rfl,rfl,SqT.of (h1),rfl,_,rfl,fun y m k t2 H2 ok e s2 h2=>?_⟩⟩
 have s12:=s1.trans s2
 have hp2:=s12 _ _ hp
 have q':=q y m k
 refine⟨_,rfl,p,aJ,dx,_,_,rfl,hp2,ZZ.ab.cl,ZZ.ai,adK ..,_,rfl,t2,_,_,_,rfl,rfl,SqT.of (h2),rfl,m3,m,rfl,⟨hn.2.2,by have:=ok.1;omega⟩,_,rfl,?_⟩
 cases c1:tb m3 m.toNat with
 |false=>
  have z:=q' H2 ok e s12
  rw[sh1 c1] at z
  exact abF z
 |true=>
  have mk:=ac2 (y:=y) ok.1.1 ok.1.2
  have kl:=ajJ (y:=y) ok.1.1 ok.1.2
  refine aa1 ⟨_,rfl,p,dx,_,rfl,hp2,abQ ..,_,rfl,t2,_,_,_,rfl,rfl,SqT.of (h2),rfl,_,rfl,t2,_,_,_,rfl,rfl,SqT.of (h2),rfl,y,m,rfl,ok.1,fun H3 s3=>?_⟩
  refine⟨p,dx,m0,m1,m3,tm,kindOf y m,dv,wv,kd,kw,rfl,s3 _ _ hp2,kl,hn.2.2,hd.keep (s12.trans s3),hw.keep (s12.trans s3),fun H4 s4=>?_⟩
  rw[mk.1,mk.2,if_pos c1,anV ok e]
  have s24:=s3.trans s4
  have sA:=s12.trans s24
  refine⟨_,rfl,t2,_,_,_,rfl,rfl,SqT.of (s24 _ _ h2),rfl,_,k,rfl,⟨agT (aDU ok) (avQ hd) (avQ hw),by have:=ok.2.1;omega⟩,_,rfl,?_⟩
  cases c2:tb (aaY kd kw (aaD y m) ((mo / 1440-k+1+6)%7)) k.toNat with
  |false=>
   have z:=q' H4 ok e sA
   rw[sh2 c1 c2] at z
   exact abF z
  |true=>
   refine aa1 ⟨_,rfl,p,aJ,dx,_,_,rfl,s24 _ _ hp2,ZZ.ab.cl,ZZ.al,aeP ..,_,rfl,t,_,_,_,rfl,rfl,SqT.of ((s2.trans s24) _ _ h1),rfl,m1,_,rfl,⟨hn.2.1,by omega⟩,_,rfl,?_⟩
   cases c3:tb m1 (mo%1440 / 60).toNat with
   |false=>
    have z:=q' H4 ok e sA
    rw[sh3 c1 c2 c3] at z
    exact abF z
   |true=>
    refine aa1 ⟨_,rfl,p,aJ,dx,_,_,rfl,s24 _ _ hp2,ZZ.ab.cl,ZZ.ah,ac9 ..,_,rfl,t,_,_,_,rfl,rfl,SqT.of ((s2.trans s24) _ _ h1),rfl,m0,_,rfl,⟨hn.1,by omega⟩,_,rfl,?_⟩
    cases c4:tb m0 (mo%1440%60).toNat with
    |false=>
     have z:=q' H4 ok e sA
     rw[sh4 c1 c2 c3 c4] at z
     exact abF z
    |true=>
     have z:=q' H4 ok e sA
     rw[sh5 c1 c2 c3 c4] at z
     exact aa1 z
theorem amD:Df P w K mg base "next_month" 1 ["year","month"] (al0 K):=by
 refine ZZ.cx.dfs amI (fun vs H Q E h=>?_) (fun f cdv A outer s H vs Q E hr h=>?_)
 ·obtain⟨_,rfl,_⟩:=h
  rfl
 obtain⟨N,rfl,q⟩:=h
 refine⟨_,(ssC (sIf (tCm oEq (v_ 1) eI) (ss1 (aaH (abN (aC (eOp aa2 (v_ 0) eI) (aC eI aN))))) ssN)
   (ss1 (aaH (abN (aC (v_ 0) (aC (eOp aa2 (v_ 1) eI) aN)))))),?_⟩
 refine⟨_,rfl,rfl,_,rfl,ifI (fun c=>?_) (fun c=>?_)⟩
 ·refine⟨_,rfl,_,_,rfl,rfl,(zL 2),fun t ht=>q t _ (aaB ht _) ?_⟩
  rw[show (N+1) / 12=N / 12+1 by omega,show (N+1)%12+1=1 by omega]
  exact aaA
 ·refine⟨_,rfl,_,rfl,_,_,rfl,rfl,(zL 2),fun t ht=>q t _ (aaB ht _) ?_⟩
  rw[show (N+1) / 12=N / 12 by omega,show (N+1)%12+1=N%12+1+1 by omega]
  exact aaA
theorem aiY:Df P w K mg base "month_before" 1 ["year","month"] (ai0 K):=by
 refine ZZ.ca.dfs aiP (fun vs H Q E h=>?_) (fun f cdv A outer s H vs Q E hr h=>?_)
 ·obtain⟨_,rfl,_⟩:=h
  rfl
 obtain⟨N,rfl,q⟩:=h
 refine⟨_,(ssC (sIf (tCm oEq (v_ 1) eI) (ss1 (aaH (abN (aC (eOp abA (v_ 0) eI) (aC eI aN))))) ssN)
   (ss1 (aaH (abN (aC (v_ 0) (aC (eOp abA (v_ 1) eI) aN)))))),?_⟩
 refine⟨_,rfl,rfl,_,rfl,ifI (fun c=>?_) (fun c=>?_)⟩
 ·refine⟨_,rfl,_,_,rfl,rfl,(zL 2),fun t ht=>q t _ (aaB ht _) ?_⟩
  rw[show (N-1) / 12=N / 12-1 by omega,show (N-1)%12+1=12 by omega]
  exact aaA
 ·refine⟨_,rfl,_,rfl,_,_,rfl,rfl,(zL 2),fun t ht=>q t _ (aaB ht _) ?_⟩
  rw[show (N-1) / 12=N / 12 by omega,show (N-1)%12+1=N%12+1-1 by omega]
  exact aaA
theorem aiO:Df P w K mg base "month_of" 5 ["moment"] (ap5 K):=by
 refine ZZ.dz.dfs sc_month_of (fun vs H Q E h=>?_) (fun f cdv A outer s H vs Q E hr h=>?_)
 ·obtain⟨_,rfl,_⟩:=h
  rfl
 obtain⟨mo,rfl,q⟩:=h
 refine⟨_,(ssC (aaJ 1 (eD (afS ZZ) hr (aC (eOp ajI (v_ 0) (eGl (v:=.int 1440) ZZ.aa ⟨_,rfl⟩)) aN)) sc_month_of.nd)
   (ss1 (aaH (abN (aC (eIx xT (v_ 1) eI) (aC (eIx xT (v_ 1) eI) aN)))))),?_⟩
 refine⟨_,rfl,_,_,rfl,rfl,⟨by decide,by decide⟩,mo / 1440,rfl,fun y m k p H1 ok e s1 hp=>?_⟩
 refine⟨_,rfl,p,_,_,_,rfl,rfl,SqT.of hp,rfl,_,rfl,p,_,_,_,rfl,rfl,SqT.of hp,rfl,(zL 2),fun t ht=>?_⟩
 have hm:=ok.1
 have e1:(12*y+m-1) / 12=y:=by omega
 have e2:(12*y+m-1)%12+1=m:=by omega
 have u:=aeW (12*y+m-1)
 unfold aq3 at u
 have d:ai9 (12*y+m-1)=db y+ahead y m:=by unfold ai9;rw[e1,e2]
 rw[e1,e2,d] at u
 have hk:=ok.2
 have e':db y+ahead y m+k-1=mo / 1440:=e
 refine q (12*y+m-1) t _ (s1.trans (aaB ht _)) (by rw[d];omega) (by rw[u];omega) ?_
 rw[e1,e2]
 exact aaA
theorem amG:Df P w K mg base "minutes_on" 1 ["days"] (alW K):=by
 refine ZZ.cy.dfs sc_minutes_on (fun vs H Q E h=>?_) (fun f cdv A outer s H vs Q E hr h=>?_)
 ·obtain⟨_,_,rfl,_⟩:=h
  rfl
 obtain⟨d,ts,rfl,hS,hl,ht,q⟩:=h
 refine⟨_,(ssC (aaJ 1 eI sc_minutes_on.nd)
   (ssC (acZ (iE ZZ.am (v_ 0)) (gTu (gsC (gN 2 sc_minutes_on.nd) (gsC (gN 3 sc_minutes_on.nd) gsN))) (ss1 (aaJ 1 (eOp oOr (v_ 1) (eOp aDE (v_ 3) (eOp af3 (eGl (v:=.int 1440) ZZ.aa ⟨_,rfl⟩) (v_ 2)))) sc_minutes_on.nd)) PassesOwn.never)
   (ss1 (aaH (v_ 1))))),?_⟩
 refine⟨_,rfl,d,rfl,⟨_,hS⟩,akB (K:=K) (a:=d) (xs:=ts.map V.int) (fun i σ H2=>∃(u1 u2:Option V),σ=[some (.ref d),some (.int (mnN (fun j=>ts.getD j 0) i)),u1,u2]/\Same H H2) ⟨_,_,rfl,Same.refl _⟩ (fun i σ H2 _ ⟨_,_,_,s2⟩=>s2.seq hS) ?_ ?_⟩
 ·rintro i x σ H2 T hx ⟨u1,u2,rfl,s2⟩ hT
  rw[bA] at hx
  cases ew:ts[i]? with
  |none=>rw[ew] at hx;cases hx
  |some z=>
   rw[ew] at hx
   obtain rfl:V.int z=x:=a8 hx
   have hz:=ht z (bI ew)
   have hi:=(cB.mp ew).1
   have ez:ts.getD i 0=z:=by rw[dP,ew];rfl
   have ee:mnN (fun j=>ts.getD j 0) (i+1)=Builtin.bitOr (mnN (fun j=>ts.getD j 0) i) (z*2^(1440*i)):=by
    show Builtin.bitOr _ (ts.getD i 0*_)=_
    rw[ez]
   refine⟨T,_,rfl,SqT.of aaA,rfl,_,_,rfl,_,_,rfl,rfl,?_⟩
   refine⟨_,rfl,_,rfl,_,rfl,_,_,rfl,rfl,.inl ⟨by decide,by decide⟩,_,_,rfl,rfl,⟨by omega,by omega,?_⟩,_,_,rfl,rfl,?_⟩
   ·have:=hz.1
    have:=hz.2
    have e:((z.natAbs:Nat):Int)<((2^1440:Nat):Int):=by rw[aa4];omega
    exact Int.ofNat_lt.mp e
   ·rw[show (1440*(i:Int)).toNat=1440*i by omega]
    exact⟨_,_,by rw[ee];rfl,s2.trans (aaB hT _)⟩
 ·rintro σ H2 ⟨u1,u2,rfl,s2⟩
  rw[aU]
  exact⟨_,rfl,q H2 s2⟩
theorem amU:Df P w K mg base "lowest" 1 ["mask"] (axM K):=by
 refine ZZ.em.dfs axG (fun vs H Q E h=>?_) (fun f cdv A outer s H vs Q E hr h=>?_)
 ·obtain⟨_,_,rfl,_⟩:=h
  rfl
 obtain⟨m,k,rfl,hm,hk,hj,q⟩:=h
 refine⟨_,(ss1 (aaH (eOp abA (eBL (eOp awP (v_ 0) (eUn aqM (v_ 0)))) eI))),?_⟩
 refine⟨_,rfl,_,rfl,_,rfl,_,_,rfl,rfl,rfl,_,rfl,rfl,_,_,rfl,rfl,?_⟩
 show Q (.int (((Builtin.Int.intBits (Builtin.bitAnd m (-m)):Nat):Int)-1)) H
 rw[aA9 hm hk hj,ax1,show (((k+1:Nat):Int)-1)=k by omega]
 exact q
theorem ag8:Df P w K mg base "last_shut_day" 7 ["row","day"] (ag4 K aB aE aF aH aD aA aG aI aJ):=by
 refine ZZ.b0.dfs sc_last_shut_day (fun vs H Q E h=>?_) (fun f cdv A outer s H vs Q E hr h=>?_)
 ·obtain⟨_,_,_,_,_,_,_,_,_,_,_,rfl,_⟩:=h
  rfl
 obtain⟨p,dx,m0,m1,m3,tm,d,dv,wv,kd,kw,rfl,hp,hn,hd,hw,hsh,q⟩:=h
 refine⟨_,(ssC (aaJ 2 (eD (afS ZZ) hr (aC (v_ 1) aN)) sc_last_shut_day.nd)
   (ssC (aaJ 3 (eD (adI ZZ) hr (aC (eIx xT (v_ 2) eI) (aC (eIx xT (v_ 2) eI) aN))) sc_last_shut_day.nd)
   (ssC (aaJ 4 (eOp azC (eMe ZZ.ab.cl (abV ZZ) hr (v_ 0) (aC (v_ 3) aN)) (eIx xT (v_ 2) eI)) sc_last_shut_day.nd)
   (ssC (sIf (tCm oEq (v_ 4) eI) (ss1 (aaH (eOp abA (eOp aa2 (v_ 1) (eIx xT (eD (ad7 ZZ) hr (aC (v_ 3) aN)) eI)) (eIx xT (v_ 2) eI)))) ssN)
   (ss1 (aaH (eOp abA (eOp aa2 (v_ 1) (eD (amU ZZ) hr (aC (v_ 4) aN))) eI))))))),?_⟩
 refine⟨_,rfl,d,rfl,fun y m k t H1 ok e s1 h1=>?_⟩
 have mk:=ac2 (y:=y) ok.1.1 ok.1.2
 have kl:=ajJ (y:=y) ok.1.1 ok.1.2
 refine⟨_,rfl,t,_,_,_,rfl,rfl,SqT.of (h1),rfl,_,rfl,t,_,_,_,rfl,rfl,SqT.of (h1),rfl,y,m,rfl,ok.1,fun H2 s2=>?_⟩
 have s12:=s1.trans s2
 refine⟨_,rfl,p,dx,_,rfl,s12 _ _ hp,abQ ..,_,rfl,p,dx,m0,m1,m3,tm,kindOf y m,dv,wv,kd,kw,rfl,s12 _ _ hp,kl,hn.2.2,hd.keep s12,hw.keep s12,fun H3 s3=>?_⟩
 have s13:=s12.trans s3
 rw[mk.1,mk.2,anV ok e]
 obtain⟨D,eD⟩:∃D,D=(if tb m3 m.toNat=true then aaY kd kw (aaD y m) ((d-k+1+6)%7) else 0):=⟨_,rfl⟩
 rw[←eD]
 have D0:0<=D/\tb D k.toNat=false:=by
  rw[eD]
  split
  ·rename_i c
   exact⟨agT (aDU ok) (avQ hd) (avQ hw),hsh y m k ok e c⟩
  ·exact⟨aZ 0,aaT _⟩
 have hk:=ok.2
 refine⟨_,rfl,t,_,_,_,rfl,rfl,SqT.of ((s2.trans s3) _ _ h1),rfl,_,_,rfl,rfl,(by show (0:Int)<=k;omega),?_⟩
 refine⟨_,rfl,rfl,_,rfl,ifI (fun c=>?_) (fun c=>?_)⟩
 ·refine⟨_,rfl,_,rfl,kindOf y m,rfl,kl,fun t2 H4 s4 h4=>?_⟩
  rw[agG,mk.1,mk.2] at h4
  exact⟨t2,_,_,_,rfl,rfl,SqT.of h4,rfl,_,_,rfl,rfl,_,rfl,t,_,_,_,rfl,rfl,SqT.of ((s2.trans (s3.trans s4)) _ _ h1),rfl,_,_,rfl,rfl,q _ _ (by omega) (s13.trans s4)⟩
 ·have X0:0<D / 2^k.toNat:=by
   have:0<=D / 2^k.toNat:=dG D0.1 (bR (aaM _))
   omega
  obtain⟨l,hl,hj⟩:=auS X0
  have l1:1<=l:=by
   rcases Nat.eq_zero_or_pos l with z | z
   ·rw[z,ag9 D0.1,Nat.add_zero,D0.2] at hl
    cases hl
   ·exact z
  exact⟨_,rfl,_,rfl,_,l,rfl,X0,hl,hj,_,_,rfl,rfl,_,_,rfl,rfl,q _ _ (by omega) s13⟩
theorem arE:Df P w K mg base "shut_end" 8 ["row","moment","word"] (asD K aB aE aF aH aD aA aG aI aJ):=by
 refine ZZ.d0.dfs arH (fun vs H Q E h=>?_) (fun f cdv A outer s H vs Q E hr h=>?_)
 ·obtain⟨_,_,_,_,_,_,_,_,_,_,_,_,rfl,_⟩:=h
  rfl
 obtain⟨p,dx,tw,m0,m1,m3,tm,d,dv,wv,kd,kw,rfl,hp,hn,hd,hw,hsh,q⟩:=h
 refine⟨_,(ssC (sIf (tCm oEq (v_ 2) (eSx [109,105,110,117,116,101])) (ss1 (aaH (v_ 1))) ssN)
   (ssC (sIf (tCm oEq (v_ 2) (eSx [104,111,117,114])) (ss1 (aaH (eOp abA (eOp aa2 (eOp abA (v_ 1) (eOp ab3 (v_ 1) (eGl (v:=.int 60) ZZ.ae ⟨_,rfl⟩))) (eGl (v:=.int 60) ZZ.ae ⟨_,rfl⟩)) eI))) ssN)
   (ss1 (aaH (eOp abA (eOp aa2 (eOp af3 (eGl (v:=.int 1440) ZZ.aa ⟨_,rfl⟩) (eD (ag8 ZZ) hr (aC (v_ 0) (aC (eOp ajI (v_ 1) (eGl (v:=.int 1440) ZZ.aa ⟨_,rfl⟩)) aN)))) (eGl (v:=.int 1440) ZZ.aa ⟨_,rfl⟩)) eI))))),?_⟩
 refine⟨_,rfl,rfl,_,rfl,ifX (fun c=>?_) (fun c=>?_)⟩
 ·exact⟨_,rfl,q _ _ (aZ _) (fun z=>absurd c z) (Same.refl _)⟩
 refine⟨_,rfl,rfl,_,rfl,ifX (fun c2=>?_) (fun c2=>?_)⟩
 ·exact⟨_,rfl,_,rfl,_,_,rfl,rfl,(by show (0:Int)<60;decide),_,_,rfl,rfl,_,_,rfl,rfl,_,_,rfl,rfl,q _ _ (by omega) (fun _=>by omega) (Same.refl _)⟩
 ·exact⟨_,rfl,_,rfl,_,_,rfl,rfl,⟨by decide,by decide⟩,p,dx,m0,m1,m3,tm,d / 1440,dv,wv,kd,kw,rfl,hp,hn,hd,hw,hsh c c2,fun r H1 hr1 s1=>⟨_,_,rfl,rfl,.inl ⟨by decide,by decide⟩,_,_,rfl,rfl,_,_,rfl,rfl,q _ _ (by omega) (fun _=>by omega) s1⟩⟩
theorem alN:Df P w K mg base "add_stretch" 1 ["stretches","first","last","told"] (alH K):=by
 refine ZZ.ck.dfs ak7 (fun vs H Q E h=>?_) (fun f cdv A outer s H vs Q E hr h=>?_)
 ·obtain⟨_,_,_,_,_,_,rfl,_⟩:=h
  rfl
 obtain⟨p,vs',sts,a,b,tm,rfl,hp,hP,hl,q⟩:=h
 refine⟨_,(ss1 (sIf (tW (anN (tCm (aQE hr.units) (v_ 0) (ab0 aN)) (ah8 (tCm oEq (eIx xT (eIx xL (v_ 0) (eUn aqM eI)) eI) (v_ 3))))) (ss1 (aJJ (abN (aC (eIx xT (eIx xL (v_ 0) (eUn aqM eI)) eI) (aC (v_ 2) (aC (v_ 3) aN)))) (gSb (v_ 0) (eUn aqM eI)))) (ss1 (apC (arB (v_ 0) (abN (aC (v_ 1) (aC (v_ 2) (aC (v_ 3) aN))))))))),?_⟩
 refine⟨_,rfl,(zL 0),fun l hl0=>⟨p,l,vs',rfl,rfl,SqL.of ((aaB hl0 _) _ _ hp),SqL.of aaA,_,rfl,?_⟩⟩
 have s0:=aaB hl0 (.lst [])
 have hp0:=s0 _ _ hp
 have app:∀{H1:Hp} (t:Addr),Same H H1->H1 t=none->∀z:TrX,Paired (TpX (upd (upd H1 t (.tup [.int z.1,.int z.2.1,.str (Tx z.2.2)])) p (.lst (vs'++[.ref t])))) (vs'++[.ref t]) (sts++[z]):=fun {H1} t s1 ht z=>by
  have tp:t≠p:=fun e=>by rw[e,s1 _ _ hp] at ht;cases ht
  have g:∀b xs,H b=some (.tup xs)->upd (upd H1 t (.tup [.int z.1,.int z.2.1,.str (Tx z.2.2)])) p (.lst (vs'++[.ref t])) b=some (.tup xs):=fun b xs hb=>by
   rw[aaF (fun e=>by rw[e,hp] at hb;cases hb)]
   exact (s1.trans (aaB ht _)) _ _ hb
  exact aeM (Paired.mapP hP fun _ _ y=>as4 g y) ⟨t,rfl,by rw[aaF tp,aaA]⟩
 have oth:∀{H1:Hp} (t:Addr) (o u:HO),Same H H1->H1 t=none->∀q o',q≠p->H q=some o'->upd (upd H1 t o) p u q=some o':=fun {H1} t o u s1 ht q o' nq hq=>by
  rw[aaF nq]
  exact (s1.trans (aaB ht o)) _ _ hq
 by_cases c:vs'=[]
 ·subst c
  cases hP
  refine aa1 (aa1 ⟨_,rfl,.inl ⟨rfl,_,SqL.of hp0⟩,_,rfl,_,rfl,_,rfl,(zL 3),fun t ht=>⟨p,_,_,rfl,rfl,(aaB ht _) _ _ hp0,(by show 0<sizeLine;decide),q _ _ aaA (app t s0 ht (a,b,tm)) (oth t _ _ s0 ht)⟩⟩)
 obtain⟨l0,v,rfl⟩:=aBG c
 obtain⟨st0,z,rfl,hP0,t0,rfl,ht0⟩:=axV hP
 rw[am4] at q
 rw[eC c]
 have ht00:=s0 _ _ ht0
 refine abF ⟨_,rfl,_,rfl,p,_,_,_,rfl,rfl,SqL.of hp0,avV,t0,_,_,_,rfl,rfl,SqT.of ht00,rfl,_,rfl,rfl,_,rfl,ifX (fun ce=>?_) (fun ce=>?_)⟩
 ·rw[if_pos ce] at q
  refine⟨_,rfl,_,rfl,p,_,_,_,rfl,rfl,SqL.of hp0,avV,t0,_,_,_,rfl,rfl,SqT.of ht00,rfl,_,rfl,_,rfl,(zL 3),fun t ht=>?_⟩
  have s1:=aaB ht (.tup [.int z.1,.int b,.str (Tx tm)])
  have tp:t≠p:=fun e=>by rw[e,hp0] at ht;cases ht
  refine⟨_,rfl,_,rfl,p,_,_,_,rfl,rfl,s1 _ _ hp0,aBY,?_⟩
  rw[ayX]
  have g:∀b' xs,H b'=some (.tup xs)->upd (upd (upd H l (.lst [])) t (.tup [.int z.1,.int b,.str (Tx tm)])) p (.lst (l0++[.ref t])) b'=some (.tup xs):=fun b' xs hb=>by
   rw[aaF (fun e=>by rw[e,hp] at hb;cases hb)]
   exact (s0.trans s1) _ _ hb
  exact q _ _ aaA (aeM (Paired.mapP hP0 fun _ _ y=>as4 g y) ⟨t,rfl,by rw[aaF tp,aaA]⟩) (oth t _ _ s0 ht)
 ·rw[if_neg ce] at q
  exact⟨_,rfl,.inl ⟨rfl,_,SqL.of hp0⟩,_,rfl,_,rfl,_,rfl,(zL 3),fun t ht=>⟨p,_,_,rfl,rfl,(aaB ht _) _ _ hp0,(by rw[dZ];omega),q _ _ aaA (app t s0 ht (a,b,tm)) (oth t _ _ s0 ht)⟩⟩
theorem aiA:Df P w K mg base "paper_of" 9 ["row","begin","end"] (arT K aB aE aF aH aD aA aG aI aJ):=by
 refine ZZ.d1.dfs sc_paper_of (fun vs H Q E h=>?_) (fun f cdv A outer s H vs Q E hr h=>?_)
 ·obtain⟨_,_,_,_,_,_,_,_,rfl,_⟩:=h
  rfl
 obtain⟨p,b,e,m0,m1,m3,kd,kw,rfl,hR,hE,hbe,q⟩:=h
 refine⟨_,(ssC (aaJ 3 (ab0 aN) sc_paper_of.nd)
   (ssC (aaJ 4 (v_ 1) sc_paper_of.nd)
   (ssC (sWh (tCm oLe (v_ 4) (v_ 2)) (ssC (aaJ 5 (eMe ZZ.ab.cl (ak8 ZZ) hr (v_ 0) (aC (v_ 4) aN)) sc_paper_of.nd)
   (ssC (aaJ 6 (eCB aFB ZZ.br PyProof.Rows.boot_min (aC (eD (arE ZZ) hr (aC (v_ 0) (aC (v_ 4) (aC (v_ 5) aN)))) (aC (v_ 2) aN))) sc_paper_of.nd)
   (ssC (apC (eD (alN ZZ) hr (aC (v_ 3) (aC (v_ 4) (aC (v_ 6) (aC (v_ 5) aN))))))
   (ss1 (aaJ 4 (eOp aa2 (v_ 6) eI) sc_paper_of.nd))))) PassesOwn.never)
   (ss1 (aaH (v_ 3)))))),?_⟩
 have hg:=hR.ok
 obtain⟨dx,dv,wv,hp,hn,hb,hd,hw⟩:=hR
 refine⟨(zL 0),fun l hl=>⟨_,rfl,?_⟩⟩
 refine ag5 (fun σ H2=>∃(mo:Int) (us:List V) (sts:List TrX) (u5 u6:Option V),σ=[some (.ref p),some (.int b),some (.int e),some (.ref l),some (.int mo),u5,u6]/\H2 l=some (.lst us)/\Paired (TpX H2) us sts/\Same H H2/\b<=mo/\(mo<=e->(sts.length:Int)<=2*(mo / 60-b / 60)+lmX sts)/\(e<b->us=[])) (fun σ _=>match σ[4]? with | some (some (V.int mo))=>(e+1-mo).toNat | _=>0) ⟨b,[],[],_,_,rfl,aaA,.nil,aaB hl _,aZ _,fun _=>by rw[Int.sub_self];decide,fun _=>rfl⟩ ?_
 rintro σ H2 ⟨mo,us,sts,u5,u6,rfl,h2,hP,s2,hbm,hlen,hemp⟩
 refine⟨_,rfl,_,rfl,_,_,rfl,rfl,_,rfl,ifD (fun c=>?_) (fun c=>?_)⟩
 ·refine⟨_,fun _ _ h=>h,?_⟩
  refine⟨_,rfl,p,dx,_,rfl,s2 _ _ hp,ajC ..,_,rfl,p,dx,m0,m1,m3,tmF m1 m0,mo,dv,wv,kd,kw,rfl,s2 _ _ hp,hn,hd.keep s2,hw.keep s2,fun y m k H3 ok ed s3=>?_⟩
  have s23:=s2.trans s3
  obtain⟨tw,etw,hday⟩:=aBL (fun z=>hE mo hbm c (aKI hn hb hg ok ed z))
  rw[etw]
  refine⟨_,rfl,_,rfl,_,rfl,p,dx,tw,m0,m1,m3,tmF m1 m0,mo,dv,wv,kd,kw,rfl,s23 _ _ hp,hn,hd.keep s23,hw.keep s23,fun n1 n2 y' m' k' ok' e' h3=>?_,fun r H4 hr1 hr2 s4=>⟨_,rfl,_,_,rfl,?_⟩⟩
  ·obtain⟨rfl,rfl,rfl⟩:=aBJ ok ok' (ed.trans e'.symm)
   exact hday n1 n2 h3
  obtain⟨la,ela⟩:∃la,la=if e<r then e else r:=⟨_,rfl⟩
  show ac5 _ (V.int (if e<r then e else r)) _ _ _
  rw[←ela]
  have hla:mo<=la/\la<=e/\(la<e->la=r):=by
   rw[ela]
   split<;>omega
  have hlen':=hlen c
  have pl:=afP hP
  have l1:=axZ sts
  have g34:∀b' xs,H2 b'=some (.tup xs)->H4 b'=some (.tup xs):=fun b' xs z=>s4 _ _ (s3 _ _ z)
  refine⟨_,rfl,_,rfl,_,rfl,_,rfl,l,us,sts,mo,la,tw,rfl,s4 _ _ (s3 _ _ h2),Paired.mapP hP (fun _ _ z=>as4 g34 z),by omega,fun H5 us' h5 hP5 oth=>?_⟩
  refine⟨_,rfl,_,_,rfl,rfl,?_⟩
  refine⟨_,(by show (e+1-(la+1)).toNat<(e+1-mo).toNat;omega),rfl,la+1,us',_,_,_,rfl,h5,hP5,fun q' o hq=>oth q' o (fun z=>by rw[z,hl] at hq;cases hq) (s4 _ _ (s23 _ _ hq)),by omega,fun z=>aAR hlen' hla.1 fun n=>?_,fun z=>?_⟩
  ·have:=hr2 n
   have:=hla.2.2 (by omega)
   omega
  ·omega
 ·exact⟨_,rfl,q l us H2 hl s2 h2 hemp⟩
theorem aeK:DfM P w K mg base aJ "on_days" 7 ["self","kind"] (aeL K aJ aB aE aF aH aD aA aG aI):=by
 refine ZZ.cl.dfs sc_Row_on_days (fun vs H Q E h=>?_) (fun f cdv A outer s H vs Q E hr h=>?_)
 ·obtain⟨_,_,_,_,_,_,_,_,_,_,_,rfl,_⟩:=h
  rfl
 obtain⟨p,dx,m0,m1,m3,tm,k,dv,wv,kd,kw,rfl,hp,hk,hm,hd,hw,q⟩:=h
 refine⟨_,(ssK (aaJ 2 (eMe ZZ.ab.cl (abV ZZ) hr (v_ 0) (aC (v_ 1) aN)) sc_Row_on_days.nd)
   (ssK (aaJ 3 (eIx xT (eD (ad7 ZZ) hr (aC (v_ 1) aN)) eI) sc_Row_on_days.nd)
   (ss1 (aaH (alM ["days","self"] [2,0] (iR2 ZZ.ac (aC eI (aC (eOp aa2 (v_ 3) eI) aN))) (fun _ _ _ _ _ _=>fsN) (fun _ _ _ _ _ _=>(eIf (tVa (eD (af2 ZZ) hr (aC (v_ 1) (aC (v_ 0) aN)))) (eFlc (K:=K) (v_ 2)) eI))))))),?_⟩
 refine⟨fun σ' H'=>σ'=[some (.ref p),some (.int k),some (.int (dIn m3 kd kw k)),none]/\Same H H',⟨_,rfl,p,dx,_,rfl,hp,abQ ..,_,rfl,p,dx,m0,m1,m3,tm,k,dv,wv,kd,kw,rfl,hp,hk,hm,hd,hw,fun H1 s1=>⟨rfl,s1⟩⟩,?_⟩
 rintro σ' H1 ⟨rfl,s1⟩
 have ml:=(adH hk.1 hk.2).2.1
 refine⟨fun σ' H'=>σ'=[some (.ref p),some (.int k),some (.int (dIn m3 kd kw k)),some (.int (lnA k))]/\Same H1 H',⟨_,rfl,k,rfl,hk,fun t H2 s2 h2=>⟨t,_,_,_,rfl,rfl,SqT.of (by rw[agG] at h2;exact h2),rfl,rfl,s2⟩⟩,?_⟩
 rintro σ' H2 ⟨rfl,s2⟩
 refine⟨_,rfl,_,_,rfl,rfl,_,_,rfl,⟨by decide,by decide,by omega,by omega⟩,adG (fun i l=>l=((List.range i).map (aaP tm m3 kd kw k)).map V.int) (by show (lnA k+1-1).toNat<=sizeLine;rw[dZ];omega) rfl ?_ ?_⟩
 ·intro i l D H3 E' F' hi hR hD s3 hl hE hF
  subst hR
  have hp3:=(s1.trans (s2.trans s3)) _ _ hp
  have et:(1+(i:Int)).toNat=i+1:=by omega
  have fin:∀v:Int,v=aaP tm m3 kd kw k i->E' (.int v) H3:=fun v ev=>hE _ _ (Same.refl _) (by rw[ev,List.range_succ,bH,bH];rfl)
  refine⟨_,rfl,_,rfl,dIn m3 kd kw k,_,rfl,⟨aFR hd hw hk.1 hk.2,by omega⟩,_,rfl,?_⟩
  rw[et]
  by_cases c:tb (dIn m3 kd kw k) (i+1)=true
  ·rw[c]
   exact abF ⟨_,rfl,p,aJ,dx,_,_,rfl,hp3,ZZ.ab.cl,ZZ.a1,aj9 ..,fin tm (by unfold aaP;rw[if_pos c])⟩
  ·rw[show tb (dIn m3 kd kw k) (i+1)=false by simpa using c]
   exact aa1 (fin 0 (by unfold aaP;rw[if_neg c]))
 ·intro D H3 l hR hD s3 hl
  subst hR
  refine q D H3 (s1.trans (s2.trans s3)) ?_
  rw[hl]
  unfold acF
  rw[show (lnA k+1-1).toNat=(lnA k).toNat by omega]
theorem aqU{HA:Hp}{f c' a p:Addr}{qual:Str}{params:Arguments}{body:Expr}{scope:Scope}{pm ctv:Value}{o0:Obj}{u0:Value}{m0 m1 m3:Int}{kd kw:Option (List Mk)}(S:LamScope "kind" "row" scope)
  (hb:∀(s:Shared) (u:Value),BindsTo s (PySem.W.kla_fn "<lambda>" qual params body scope [("row",a)] pm (.ref c') ctv) ⟨[u],[]⟩ [("kind",u)])
  (hB:∀(A:Around) (outer:List Env) (s:Shared) (H1:Hp),Room 7 (acW P w K mg base ["kind","row"] qual scope s.heap.objs.size f c' [("row",a)] A outer s H1).A->L2.E (acW P w K mg base ["kind","row"] qual scope s.heap.objs.size f c' [("row",a)] A outer s H1) body (aAN aJ "on_days" (aeL K aJ aB aE aF aH aD aA aG aI) [] E0 (aCH 1) (adX (aCH 0) akI)))
  (hf:HA f=some (ab4 f (auF qual params body scope "row" a pm c' ctv))) (hc:HA c'=some (alX c' qual)) (ha:HA a=some (ab4 a o0)) (ho:o0.data=.cell (some u0)) (r0:RelV (.ref p) u0)
  (hR:RowR (⟨aB,aE,aF,aH,aD,aA,aG,aI⟩:Cs) aJ (era HA a) p m0 m1 m3 kd kw):aoO P w K mg base 8 HA f (aaP (tmF m1 m0) m3 kd kw):=by
 refine⟨⟨_,_,_,_,hf⟩,fun H1 k Q s1 k0 k1 q=>?_⟩
 intro A outer s us hr e0 rv
 obtain⟨u,rfl,ru⟩:∃u,us=[u]/\RelV (.int k) u:=by
  cases rv with
  |cons r rn=>cases rn;exact⟨_,rfl,r⟩
 obtain⟨dx,dv,wv,hp,hn,hb2,hd,hw⟩:=hR
 have se:Same (era HA a) (era H1 a):=fun b o e=>by
  obtain⟨nb,e⟩:=aoQ e
  rw[aaR nb]
  exact s1 _ _ e
 refine aER S hr e0 (hb s u) ru (s1 _ _ hf) (s1 _ _ hc) (s1 _ _ ha) ho r0 (hB A outer s (era H1 a) (hr.deeper _)) ?_
 refine⟨_,rfl,p,dx,_,rfl,se _ _ hp,ajF ..,_,rfl,p,dx,m0,m1,m3,tmF m1 m0,k,dv,wv,kd,kw,rfl,se _ _ hp,⟨k0,k1⟩,hn.2.2,hd.keep se,hw.keep se,fun D H' s' hD na=>q D _ (fun b o e=>?_) ?_⟩
 ·by_cases z:b=a
  ·rw[z] at e ⊢
   rw[s1 _ _ ha] at e
   rw[aaA]
   exact e
  ·rw[aaF z]
   exact s' _ _ (by rw[aaR z];exact e)
 ·rw[aaF (fun z=>by rw[z,na] at hD;cases hD)]
  exact hD
theorem afO:Df P w K mg base "minutes_by" 9 ["known","on_days","kind"] (alV P w mg base K):=by
 refine ZZ.cz.dfs alU (fun vs H Q E h=>?_) (fun f cdv A outer s H vs Q E hr h=>?_)
 ·obtain⟨_,_,_,_,_,_,rfl,_⟩:=h
  rfl
 obtain⟨kn,f,kd,kvs,g,H0,rfl,hk,hkn,hK,hl,hg,h0,s0,hD,q⟩:=h
 refine⟨_,(ssC (sIf (tDnt hr (v_ 2) (v_ 0)) (ss1 (sDpt hr (v_ 0) (v_ 2) (eD (amG ZZ) hr (aC (aFL (k:=8) hr (v_ 1) (aC (v_ 2) aN)) aN)))) ssN)
   (ss1 (aaH (eDg hr (v_ 0) (v_ 2))))),?_⟩
 refine⟨_,rfl,_,rfl,kn,_,rfl,DGet.k (k:=.inl kd) hkn,_,rfl,?_⟩
 cases e:acJ kvs (.inl kd) with
 |none=>
  have hF:=axB s0 hD.1
  refine abF ⟨_,rfl,f,rfl,hF,_,rfl,hF,hD.2 H kd _ s0 hk.1 hk.2 fun D H2 s2 h2=>⟨D,acF g kd,rfl,SqL.of h2,aI1 g hk.1 hk.2,aP3 hg,fun H3 s3=>?_⟩⟩
  have s23:=s2.trans s3
  refine⟨_,rfl,_,rfl,kn,_,rfl,.inl ⟨kvs,.inl kd,s23 _ _ hkn,rfl,by rw[dZ];omega,rfl⟩,?_⟩
  exact⟨_,rfl,_,rfl,kn,_,rfl,.inl ⟨_,.inl kd,.inl aaA,rfl,(by rw[arI,if_pos rfl];rfl)⟩,q _ _ aaA (aFO hK kd) (aeB _ _ _) fun b o n hb=>by rw[aaF n];exact s23 _ _ hb⟩
 |some v=>
  have ev:=hK kd v e
  subst ev
  exact aa1 ⟨_,rfl,_,rfl,kn,_,rfl,.inl ⟨_,.inl kd,.inl hkn,rfl,e.symm⟩,q kvs H hkn hK (by omega) fun _ _ _ hb=>hb⟩
theorem ar2:Df P w K mg base "first_at" 10 ["on_days","moment"] (ap7 P w mg base K):=by
 refine ZZ.d2.dfs sc_first_at (fun vs H Q E h=>?_) (fun f cdv A outer s H vs Q E hr h=>?_)
 ·obtain⟨_,_,_,rfl,_⟩:=h
  rfl
 obtain⟨f,mo,g,rfl,hg,hD,q,q0⟩:=h
 refine⟨_,(ssC (aaJ 2 (eD (aiO ZZ) hr (aC (v_ 1) aN)) sc_first_at.nd)
   (ssC (aaJ 3 eDi sc_first_at.nd)
   (ssC (acZ (iR1 ZZ.ac (aC (eGl (v:=.int 492) ZZ.a6 ⟨_,rfl⟩) aN)) (gN 4 sc_first_at.nd) (ssC (aaJ 5 (eOp af3 (eGl (v:=.int 1440) ZZ.aa ⟨_,rfl⟩) (eD (ahS ZZ) hr (aC (eIx xT (v_ 2) eI) (aC (eIx xT (v_ 2) eI) (aC eI aN))))) sc_first_at.nd)
   (ssC (aaJ 6 (eCB aEC ZZ.bs PyProof.Rows.boot_max (aC (eOp abA (v_ 1) (v_ 5)) (aC eI aN))) sc_first_at.nd)
   (ssC (aaJ 7 (eOp azC (eD (afO ZZ) hr (aC (v_ 3) (aC (v_ 0) (aC (eD (adI ZZ) hr (aC (eIx xT (v_ 2) eI) (aC (eIx xT (v_ 2) eI) aN))) aN)))) (v_ 6)) sc_first_at.nd)
   (ssC (sIf (tCm oNe (v_ 7) eI) (ss1 (aaH (eOp aa2 (eOp aa2 (v_ 5) (v_ 6)) (eD (amU ZZ) hr (aC (v_ 7) aN))))) ssN)
   (ss1 (aaJ 2 (eD (amD ZZ) hr (aC (eIx xT (v_ 2) eI) (aC (eIx xT (v_ 2) eI) aN))) sc_first_at.nd)))))) PassesOwn.never)
   (ss1 (aaH eN))))),?_⟩
 have hc:=az7 hg
 refine⟨_,rfl,mo,rfl,fun M0 t0 H1 s1 a1 a2 ht0=>fun kn hkn=>?_⟩
 have hkH:H kn=none:=by
  cases z:H kn with
  |none=>rfl
  |some o=>rw[s1 _ _ z] at hkn;cases hkn
 have sk:=aaB hkn (.dK [])
 refine⟨_,rfl,by decide,by decide,abS (fun i σ H2=>∃(tt:Addr) (kvs:List (Key×V)) (u4 u5 u6 u7:Option V),σ=[some (.ref f),some (.int mo),some (.ref tt),some (.ref kn),u4,u5,u6,u7]/\H2 tt=some (.tup [.int ((M0+i) / 12),.int ((M0+i)%12+1)])/\H2 kn=some (.dK kvs)/\axE g kvs/\kvs.length<=i/\Same H H2/\∀t,mo<=t->t<SM (M0+i)->¬EvG g t) ⟨t0,[],_,_,_,_,rfl,by rw[show M0+((0:Nat):Int)=M0 by omega];exact sk _ _ ht0,aaA,fun _ _ z=>(by cases z),aS _,s1.trans sk,fun t h1 h2=>by rw[show M0+((0:Nat):Int)=M0 by omega] at h2;unfold SM at h2;omega⟩ ?turn ?done⟩
 case done=>
  rintro σ H2 ⟨tt,kvs,u4,u5,u6,u7,rfl,htt,hk2,hK,hl,s2,hno⟩
  exact q0 H2 s2 (atZ hc a1 a2 hno)
 case turn=>
  rintro i σ H2 hi ⟨tt,kvs,u4,u5,u6,u7,rfl,htt,hk2,hK,hl,s2,hno⟩
  obtain⟨M,eM⟩:∃M,M=M0+(i:Int):=⟨_,rfl⟩
  rw[←eM] at htt hno
  have hi2:i<492:=hi
  have lm:=ajK M
  refine⟨_,rfl,tt,_,_,_,rfl,rfl,SqT.of (htt),rfl,_,rfl,tt,_,_,_,rfl,rfl,SqT.of (htt),rfl,(M / 12),(M%12+1),1,rfl,⟨⟨by omega,by omega⟩,by omega,by have h:28<=aaD (M / 12) (M%12+1):=lm.1;omega⟩,fun H3 s3=>⟨_,_,rfl,rfl,.inl ⟨by decide,by decide⟩,?_⟩⟩
  have eS:1440*(db (M / 12)+ahead (M / 12) (M%12+1)+1-1)=SM M:=by unfold SM ai9;omega
  show ac5 _ (V.int (1440*(db (M / 12)+ahead (M / 12) (M%12+1)+1-1))) _ _ _
  rw[eS]
  refine⟨_,rfl,_,rfl,_,_,rfl,rfl,_,_,rfl,?_⟩
  show ac5 _ (V.int (if 0>mo-SM M then 0 else mo-SM M)) _ _ _
  rw[aD8]
  have s23:=s2.trans s3
  refine⟨_,rfl,_,rfl,_,rfl,tt,_,_,_,rfl,rfl,SqT.of (s3 _ _ htt),rfl,_,rfl,tt,_,_,_,rfl,rfl,SqT.of (s3 _ _ htt),rfl,(M / 12),(M%12+1),rfl,⟨by omega,by omega⟩,fun H4 s4=>?_⟩
  have s24:=s23.trans s4
  refine⟨kn,f,abO M,kvs,g,H,rfl,ab5 M,s4 _ _ (s3 _ _ hk2),hK,by omega,hg,hkH,s24,hD,fun kvs' H5 h5 hK5 hl5 k5=>?_⟩
  have s5:Same H H5:=fun b o hb=>k5 b o (fun z=>by rw[z,hkH] at hb;cases hb) (s24 _ _ hb)
  have nt:tt≠kn:=fun z=>by rw[z,hk2] at htt;cases htt
  have ht5:H5 tt=_:=k5 tt _ nt (s4 _ _ (s3 _ _ htt))
  refine⟨_,rfl,_,_,rfl,rfl,(by show (0:Int)<=max (mo-SM M) 0;omega),?_⟩
  refine⟨_,rfl,rfl,_,rfl,aCS (fun c=>?_) (fun c=>?_)⟩
  ·have X0:0<WM g M / 2^(max (mo-SM M) 0).toNat:=by
    have:0<=WM g M / 2^(max (mo-SM M) 0).toNat:=dG (hc.nn M) (bR (aaM _))
    have c':¬WM g M / 2^(max (mo-SM M) 0).toNat=0:=c
    omega
   obtain⟨l,hl',hj⟩:=auS X0
   obtain⟨b1,b2,b3⟩:=axP hc hno hl' hj
   have far:=anU M0 492
   have a1':SM M0<=mo:=a1
   have up:=hc.mono (show M+1<=M0+(492:Nat) by omega)
   have hb':=hc.bit M _ (by rw[←ag9 (hc.nn M)];exact hl')
   refine⟨_,rfl,_,rfl,_,_,rfl,rfl,_,rfl,_,l,rfl,X0,hl',hj,_,_,rfl,rfl,q _ H5 s5 b1 b2 b3 ?_⟩
   omega
  ·refine⟨_,rfl,tt,_,_,_,rfl,rfl,SqT.of (ht5),rfl,_,rfl,tt,_,_,_,rfl,rfl,SqT.of (ht5),rfl,M,rfl,fun t6 H6 s6 h6=>?_⟩
   refine⟨t6,kvs',_,_,_,_,rfl,by rw[show M0+((i+1:Nat):Int)=M+1 by omega];exact h6,s6 _ _ h5,hK5,by omega,s5.trans s6,?_⟩
   rw[show M0+((i+1:Nat):Int)=M+1 by omega]
   exact asH hc hno c
theorem arA:Df P w K mg base "final_at" 10 ["on_days","moment"] (asG P w mg base K):=by
 refine ZZ.d3.dfs sc_final_at (fun vs H Q E h=>?_) (fun f cdv A outer s H vs Q E hr h=>?_)
 ·obtain⟨_,_,_,rfl,_⟩:=h
  rfl
 obtain⟨f,mo,g,rfl,hg,hD,q,q0⟩:=h
 refine⟨_,(ssC (aaJ 2 (eD (aiO ZZ) hr (aC (v_ 1) aN)) sc_final_at.nd)
   (ssC (aaJ 3 eDi sc_final_at.nd)
   (ssC (acZ (iR1 ZZ.ac (aC (eGl (v:=.int 492) ZZ.a6 ⟨_,rfl⟩) aN)) (gN 4 sc_final_at.nd) (ssC (aaJ 5 (eOp af3 (eGl (v:=.int 1440) ZZ.aa ⟨_,rfl⟩) (eD (ahS ZZ) hr (aC (eIx xT (v_ 2) eI) (aC (eIx xT (v_ 2) eI) (aC eI aN))))) sc_final_at.nd)
   (ssC (aaJ 6 (eCB aFB ZZ.br PyProof.Rows.boot_min (aC (eOp abA (v_ 1) (v_ 5)) (aC (eGl (v:=.int 44640) ZZ.bh ⟨_,rfl⟩) aN))) sc_final_at.nd)
   (ssC (aaJ 7 (eOp awP (eD (afO ZZ) hr (aC (v_ 3) (aC (v_ 0) (aC (eD (adI ZZ) hr (aC (eIx xT (v_ 2) eI) (aC (eIx xT (v_ 2) eI) aN))) aN)))) (eOp abA (eOp aDE eI (v_ 6)) eI)) sc_final_at.nd)
   (ssC (sIf (tCm oNe (v_ 7) eI) (ss1 (aaH (eOp abA (eOp aa2 (v_ 5) (eBL (v_ 7))) eI))) ssN)
   (ss1 (aaJ 2 (eD (aiY ZZ) hr (aC (eIx xT (v_ 2) eI) (aC (eIx xT (v_ 2) eI) aN))) sc_final_at.nd)))))) PassesOwn.never)
   (ss1 (aaH eN))))),?_⟩
 have hc:=az7 hg
 refine⟨_,rfl,mo,rfl,fun M0 t0 H1 s1 a1 a2 ht0=>fun kn hkn=>?_⟩
 have hkH:H kn=none:=by
  cases z:H kn with
  |none=>rfl
  |some o=>rw[s1 _ _ z] at hkn;cases hkn
 have sk:=aaB hkn (.dK [])
 refine⟨_,rfl,by decide,by decide,abS (fun i σ H2=>∃(tt:Addr) (kvs:List (Key×V)) (u4 u5 u6 u7:Option V),σ=[some (.ref f),some (.int mo),some (.ref tt),some (.ref kn),u4,u5,u6,u7]/\H2 tt=some (.tup [.int ((M0-i) / 12),.int ((M0-i)%12+1)])/\H2 kn=some (.dK kvs)/\axE g kvs/\kvs.length<=i/\Same H H2/\∀t,SM (M0-i+1)<=t->t<=mo->¬EvG g t) ⟨t0,[],_,_,_,_,rfl,by rw[show M0-((0:Nat):Int)=M0 by omega];exact sk _ _ ht0,aaA,fun _ _ z=>(by cases z),aS _,s1.trans sk,fun t h1 h2=>by rw[show M0-((0:Nat):Int)=M0 by omega] at h1;unfold SM at h1;omega⟩ ?turn ?done⟩
 case done=>
  rintro σ H2 ⟨tt,kvs,u4,u5,u6,u7,rfl,htt,hk2,hK,hl,s2,hno⟩
  exact q0 H2 s2 (axA hc a1 a2 fun t h1 h2=>hno t (by rw[show M0-((492:Int).toNat:Int)+1=M0-491 by omega];exact h1) h2)
 case turn=>
  rintro i σ H2 hi ⟨tt,kvs,u4,u5,u6,u7,rfl,htt,hk2,hK,hl,s2,hno⟩
  obtain⟨M,eM⟩:∃M,M=M0-(i:Int):=⟨_,rfl⟩
  rw[←eM] at htt hno
  have hi2:i<492:=hi
  have lm:=ajK M
  have a1':SM M0<=mo:=a1
  have hMm:SM M<=mo:=c6 (hc.mono (show M<=M0 by omega)) a1'
  have hc4:SM (M+1)-SM M<=44640:=by
   have:=anU M 1
   have e1:M+((1:Nat):Int)=M+1:=rfl
   rw[e1] at this
   omega
  refine⟨_,rfl,tt,_,_,_,rfl,rfl,SqT.of (htt),rfl,_,rfl,tt,_,_,_,rfl,rfl,SqT.of (htt),rfl,(M / 12),(M%12+1),1,rfl,⟨⟨by omega,by omega⟩,by omega,by have h:28<=aaD (M / 12) (M%12+1):=lm.1;omega⟩,fun H3 s3=>⟨_,_,rfl,rfl,.inl ⟨by decide,by decide⟩,?_⟩⟩
  have eS:1440*(db (M / 12)+ahead (M / 12) (M%12+1)+1-1)=SM M:=by unfold SM ai9;omega
  show ac5 _ (V.int (1440*(db (M / 12)+ahead (M / 12) (M%12+1)+1-1))) _ _ _
  rw[eS]
  refine⟨_,rfl,_,rfl,_,_,rfl,rfl,_,_,rfl,?_⟩
  show ac5 _ (V.int (if 44640<mo-SM M then 44640 else mo-SM M)) _ _ _
  rw[aGL]
  have s23:=s2.trans s3
  refine⟨_,rfl,_,rfl,_,rfl,tt,_,_,_,rfl,rfl,SqT.of (s3 _ _ htt),rfl,_,rfl,tt,_,_,_,rfl,rfl,SqT.of (s3 _ _ htt),rfl,(M / 12),(M%12+1),rfl,⟨by omega,by omega⟩,fun H4 s4=>?_⟩
  have s24:=s23.trans s4
  refine⟨kn,f,abO M,kvs,g,H,rfl,ab5 M,s4 _ _ (s3 _ _ hk2),hK,by omega,hg,hkH,s24,hD,fun kvs' H5 h5 hK5 hl5 k5=>?_⟩
  have s5:Same H H5:=fun b o hb=>k5 b o (fun z=>by rw[z,hkH] at hb;cases hb) (s24 _ _ hb)
  have nt:tt≠kn:=fun z=>by rw[z,hk2] at htt;cases htt
  have ht5:H5 tt=_:=k5 tt _ nt (s4 _ _ (s3 _ _ htt))
  refine⟨_,rfl,_,_,rfl,rfl,⟨by show (0:Int)<=min (mo-SM M) 44640;omega,by show min (mo-SM M) 44640<=1000000;omega,by decide⟩,_,_,rfl,rfl,_,_,rfl,rfl,?_⟩
  refine⟨_,rfl,rfl,_,rfl,aCS (fun c=>?_) (fun c=>?_)⟩
  ·have X0:0<Builtin.bitAnd (WM g M) (2*2^(min (mo-SM M) 44640).toNat-1):=by
    have p1:=aaM (min (mo-SM M) 44640).toNat
    have:0<=Builtin.bitAnd (WM g M) (2*2^(min (mo-SM M) 44640).toNat-1):=ag0 (hc.nn M) (by omega)
    have c':¬Builtin.bitAnd (WM g M) (2*2^(min (mo-SM M) 44640).toNat-1)=0:=c
    omega
   obtain⟨l,el,hl',hj⟩:=aCN X0
   obtain⟨b1,b2,b3⟩:=aAC hc hc4 hMm hno hl' hj
   have far:=anU (M0-491) 492
   have up:=hc.mono (show M0-491<=M by omega)
   rw[show M0-491+((492:Nat):Int)=M0+1 by omega] at far
   have a2':mo<SM (M0+1):=a2
   refine⟨_,rfl,_,rfl,rfl,_,rfl,rfl,_,_,rfl,rfl,_,_,rfl,rfl,?_⟩
   have ee:SM M+(Builtin.Int.intBits (Builtin.bitAnd (WM g M) (2*2^(min (mo-SM M) 44640).toNat-1)):Int)-1=SM M+l:=by omega
   show Q (.int (SM M+(Builtin.Int.intBits (Builtin.bitAnd (WM g M) (2*2^(min (mo-SM M) 44640).toNat-1)):Int)-1)) H5
   rw[ee]
   exact q _ H5 s5 b1 b2 b3 (by omega)
  ·refine⟨_,rfl,tt,_,_,_,rfl,rfl,SqT.of (ht5),rfl,_,rfl,tt,_,_,_,rfl,rfl,SqT.of (ht5),rfl,M,rfl,fun t6 H6 s6 h6=>?_⟩
   refine⟨t6,kvs',_,_,_,_,rfl,by rw[show M0-((i+1:Nat):Int)=M-1 by omega];exact h6,s6 _ _ h5,hK5,by omega,s5.trans s6,?_⟩
   rw[show M0-((i+1:Nat):Int)+1=M by omega]
   exact awK hc hc4 hMm hno c
theorem an1:Df P w K mg base "next_from" 11 ["row","moment"] (aoE K aB aE aF aH aD aA aG aI aJ aK aL aM):=by
 refine ZZ.dc.dfs sc_next_from (fun vs H Q E h=>?_) (fun f A outer s H vs Q E hr h=>?_)
 ·obtain⟨_,_,_,_,_,_,_,rfl,_⟩:=h
  rfl
 obtain⟨p,mo,m0,m1,m3,kd,kw,rfl,hR,hT,q⟩:=h
 refine⟨_,(ssC (aaJ 2 (azA "row" 0 (ar2 ZZ) hr (aC (aJR ZZ.cq) (aC (v_ 1) aN))) sc_next_from.nd)
   (ssC (sIf (tCm ac4 (v_ 2) eN) (ss1 (aaH (abN (aC eN (aC (ab0 aN) aN))))) ssN)
   (ss1 (aaH (abN (aC (v_ 2) (aC (eD (aiA ZZ) hr (aC (v_ 0) (aC (v_ 1) (aC (eOp abA (v_ 2) eI) aN)))) aN))))))),?_⟩
 delta aA3 asW at1 adX
 refine arL (tN:=aK) (tL:=aL) hT.1 hT.2.1 hT.2.2.1 hT.2.2.2 (fun f' HL hL=>⟨_,rfl,_,rfl,fun ha o0 u0 ho r0=>?_⟩)
 obtain⟨hf0,sN,⟨c',ctv,hf,hc⟩,t1,t2⟩:=hL
 have nf:f'≠_:=fun z=>by rw[z,ha] at hf;cases hf
 have nc:c'≠_:=fun z=>by rw[z,ha] at hc;cases hc
 have hg:=hR.ok
 have tab:∀{H'},Same HL H'->aiS H' aK aL aM:=fun s=>acG s ⟨t1,t2,hT.2.2.1,ag2 sN hT.2.2.2⟩
 refine⟨f',mo,aaP (tmF m1 m0) m3 kd kw,rfl,hg,?hD,fun e H' s' ev h1 h2 h3=>⟨s' _ _ aaA,?_⟩,fun H' s' hno=>⟨s' _ _ aaA,?_⟩⟩
 case hD=>
  refine aqU ZZ ?hS ?hB1 ?hB2 ((aaF nf).trans hf) ((aaF nc).trans hc) aaA ho r0 (RowR.keepN (sN.trans (abP (ac3 ha (Same.refl _)))) hR)
  case hS=>exact⟨rfl,rfl,rfl,by decide +kernel,rfl,rfl,by decide +kernel,by decide +kernel⟩
  case hB1=>exact fun s u=>.of_eq rfl
  case hB2=>exact fun A outer s H1 hr=>eMe ZZ.ab.cl (aeK ZZ) hr (v_ 1) (aC (v_ 0) aN)
 ·have sE:=ac3 ha s'
  have sNE:=sN.trans (abP sE)
  refine⟨_,rfl,rfl,_,rfl,ifD (fun c=>by cases c) (fun _=>?_)⟩
  refine⟨_,rfl,_,rfl,_,rfl,_,rfl,_,_,rfl,rfl,p,mo,(e-1),m0,m1,m3,kd,kw,rfl,RowR.keepN sNE hR,fun t a b=>h2 t a (by omega),by omega,fun l us H2 hl s2 hl2 hemp=>⟨(zL 2),fun t ht=>?_⟩⟩
  have s3:=s2.trans (aaB ht (.tup [.int e,.ref l]))
  exact q t l us _ (.int e) (sNE.trans (abP s3)) (tab (sE.trans s3)) (agU sNE hl) aaA (aaB ht _ _ _ hl2) (.inl ⟨e,rfl,ev,⟨h1,h2⟩,fun z=>hemp (by omega)⟩)
 ·have sE:=ac3 ha s'
  have sNE:=sN.trans (abP sE)
  refine⟨_,rfl,rfl,_,rfl,ifD (fun _=>?_) (fun c=>absurd rfl c)⟩
  refine⟨(zL 0),fun l hl=>⟨(zL 2),fun t ht=>?_⟩⟩
  have s3:=(aaB hl (.lst [])).trans (aaB ht (.tup [.non,.ref l]))
  exact q t l [] _ .non (sNE.trans (abP s3)) (tab (sE.trans s3)) (agU sNE hl) aaA (aaB ht _ _ _ aaA) (.inr ⟨rfl,rfl,hno⟩)
theorem atG:Df P w K mg base "last_to" 11 ["row","moment"] (atY K aB aE aF aH aD aA aG aI aJ aK aL aM):=by
 refine ZZ.eg.dfs sc_last_to (fun vs H Q E h=>?_) (fun f A outer s H vs Q E hr h=>?_)
 ·obtain⟨_,_,_,_,_,_,_,rfl,_⟩:=h
  rfl
 obtain⟨p,mo,m0,m1,m3,kd,kw,rfl,hR,hT,q⟩:=h
 refine⟨_,(ssC (aaJ 2 (azA "row" 0 (arA ZZ) hr (aC (aJR ZZ.dm) (aC (v_ 1) aN))) sc_last_to.nd)
   (ssC (sIf (tCm ac4 (v_ 2) eN) (ss1 (aaH (abN (aC eN (aC (ab0 aN) aN))))) ssN)
   (ss1 (aaH (abN (aC (v_ 2) (aC (eD (aiA ZZ) hr (aC (v_ 0) (aC (eOp aa2 (v_ 2) eI) (aC (v_ 1) aN)))) aN))))))),?_⟩
 delta aA3 asW at1 adX
 refine arL (tN:=aL) (tL:=aK) hT.2.1 hT.1 hT.2.2.1.symm hT.2.2.2 (fun f' HL hL=>⟨_,rfl,_,rfl,fun ha o0 u0 ho r0=>?_⟩)
 obtain⟨hf0,sN,⟨c',ctv,hf,hc⟩,t1,t2⟩:=hL
 have nf:f'≠_:=fun z=>by rw[z,ha] at hf;cases hf
 have nc:c'≠_:=fun z=>by rw[z,ha] at hc;cases hc
 have hg:=hR.ok
 have tab:∀{H'},Same HL H'->aiS H' aK aL aM:=fun s=>acG s ⟨t2,t1,hT.2.2.1,ag2 sN hT.2.2.2⟩
 refine⟨f',mo,aaP (tmF m1 m0) m3 kd kw,rfl,hg,?hD,fun e H' s' ev h1 h2 h3=>⟨s' _ _ aaA,?_⟩,fun H' s' hno=>⟨s' _ _ aaA,?_⟩⟩
 case hD=>
  refine aqU ZZ ?hS ?hB1 ?hB2 ((aaF nf).trans hf) ((aaF nc).trans hc) aaA ho r0 (RowR.keepN (sN.trans (abP (ac3 ha (Same.refl _)))) hR)
  case hS=>exact⟨rfl,rfl,rfl,by decide +kernel,rfl,rfl,by decide +kernel,by decide +kernel⟩
  case hB1=>exact fun s u=>.of_eq rfl
  case hB2=>exact fun A outer s H1 hr=>eMe ZZ.ab.cl (aeK ZZ) hr (v_ 1) (aC (v_ 0) aN)
 ·have sE:=ac3 ha s'
  have sNE:=sN.trans (abP sE)
  refine⟨_,rfl,rfl,_,rfl,ifD (fun c=>by cases c) (fun _=>?_)⟩
  refine⟨_,rfl,_,rfl,_,rfl,_,_,rfl,rfl,_,rfl,p,(e+1),mo,m0,m1,m3,kd,kw,rfl,RowR.keepN sNE hR,fun t a b=>h2 t (by omega) b,by omega,fun l us H2 hl s2 hl2 hemp=>⟨(zL 2),fun t ht=>?_⟩⟩
  have s3:=s2.trans (aaB ht (.tup [.int e,.ref l]))
  exact q t l us _ (.int e) (sNE.trans (abP s3)) (tab (sE.trans s3)) (agU sNE hl) aaA (aaB ht _ _ _ hl2) (.inl ⟨e,rfl,ev,⟨h1,h2⟩,fun z=>hemp (by omega)⟩)
 ·have sE:=ac3 ha s'
  have sNE:=sN.trans (abP sE)
  refine⟨_,rfl,rfl,_,rfl,ifD (fun _=>?_) (fun c=>absurd rfl c)⟩
  refine⟨(zL 0),fun l hl=>⟨(zL 2),fun t ht=>?_⟩⟩
  have s3:=(aaB hl (.lst [])).trans (aaB ht (.tup [.non,.ref l]))
  exact q t l [] _ .non (sNE.trans (abP s3)) (tab (sE.trans s3)) (agU sNE hl) aaA (aaB ht _ _ _ aaA) (.inr ⟨rfl,rfl,hno⟩)
theorem adM:Df P w K mg base "_law_cell_at" 1 ["_law_script","_law_k"] (aiR K):=by
 refine ZZ.cb.dfs ai7 (fun vs H Q E h=>?_) (fun f cdv A outer s H vs Q E hr h=>?_)
 ·obtain⟨_,_,rfl,_⟩:=h
  rfl
 obtain⟨a,k,rfl,⟨ns,hS⟩,⟨h0,h9⟩,q⟩:=h
 refine⟨_,(ssC (sIf (tCm oLt (v_ 1) (eCB amB ZZ.af PySem.boot_len (aC (v_ 0) aN))) (ss1 (aaH (eIx xL (v_ 0) (v_ 1)))) ssN)
   (ss1 (aaH (eOp ab3 (eOp af3 (eOp ayF (eOp aa2 (v_ 1) eI) eI) eI) eI)))),?_⟩
 refine⟨_,rfl,_,rfl,a,_,rfl,.inl hS,_,_,rfl,rfl,_,rfl,?_⟩
 refine ifD (fun c=>?_) (fun c=>?_)
 ·rw[aU] at c
  have hk:k.toNat<ns.length:=by omega
  have ek:k=((k.toNat:Nat):Int):=by omega
  have e:atI (ns.map V.int) k=some (.int ns[k.toNat]):=by
   have z:atI (ns.map V.int) ((k.toNat:Nat):Int)=some (.int ns[k.toNat]):=aeR (by rw[bA,bS hk];rfl)
   rw[←ek] at z
   exact z
  refine⟨_,rfl,_,rfl,a,_,_,_,rfl,rfl,hS,e,?_⟩
  exact q _
 ·refine⟨_,rfl,_,_,rfl,rfl,_,_,rfl,rfl,⟨by decide,by decide,(by show (k+2).natAbs<2^64;omega)⟩,_,_,rfl,rfl,.inr ⟨by decide,by decide⟩,_,_,rfl,rfl,(by show (0:Int)<15485863;decide),?_⟩
  exact q _
theorem aoB:Df P w K mg base "_law_stir" 1 ["_law_number"] (an8 K):=by
 refine ZZ.dd.dfs sc__law_stir (fun vs H Q E h=>?_) (fun f cdv A outer s H vs Q E hr h=>?_)
 ·obtain⟨_,rfl,_⟩:=h
  rfl
 obtain⟨n,rfl,q⟩:=h
 refine⟨_,(ssC (aaJ 1 (eOp ab3 (eOp af3 (eOp aa2 (eOp ab3 (v_ 0) (eOp ayF eI eI)) eI) eI) eI) sc__law_stir.nd)
   (ssC (aaJ 2 (eOp ab3 (eOp af3 (v_ 1) (eOp aa2 (eOp ab3 (v_ 1) eI) eI)) eI) sc__law_stir.nd)
   (ss1 (aaH (eOp ab3 (eOp af3 (v_ 2) (eOp aa2 (eOp ab3 (v_ 2) eI) eI)) eI))))),?_⟩
 refine⟨_,rfl,_,_,rfl,rfl,⟨by decide,by decide,by decide⟩,_,_,rfl,rfl,(by rw[aKZ];show (0:Int)<_;decide),_,_,rfl,rfl,_,_,rfl,rfl,.inr ⟨by decide,by decide⟩,_,_,rfl,rfl,(by show (0:Int)<4294967291;decide),?_⟩
 refine⟨_,rfl,_,rfl,_,_,rfl,rfl,(by show (0:Int)<65521;decide),_,_,rfl,rfl,_,_,rfl,rfl,aK5 (by decide) (by decide),_,_,rfl,rfl,(by show (0:Int)<999999937;decide),?_⟩
 refine⟨_,rfl,_,rfl,_,_,rfl,rfl,(by show (0:Int)<32749;decide),_,_,rfl,rfl,_,_,rfl,rfl,aK5 (by decide) (by decide),_,_,rfl,rfl,(by show (0:Int)<2147483629;decide),?_⟩
 exact q _ (cN _ (by decide)) (c7 _ (by decide))
theorem ajY:Df P w K mg base "_law_digits" 2 ["_law_cell","_law_sizes","_law_mixed"] (alO K):=by
 refine ZZ.cm.dfs sc__law_digits (fun vs H Q E h=>?_) (fun f cdv A outer s H vs Q E hr h=>?_)
 ·obtain⟨_,_,_,_,rfl,_⟩:=h
  rfl
 obtain⟨c,a,b,ss,rfl,hS,hz,hl,q⟩:=h
 refine⟨_,(ssC (aaJ 3 (ab0 aN) sc__law_digits.nd)
   (ssC (aaJ 2 (eOr (v_ 2) (aiX (acT oLt (eCB cAbs ZZ.eu PyProof.Rows.boot_abs (aC (v_ 0) aN)) (eOp ayF eI eI)))) sc__law_digits.nd)
   (ssC (acZ (iL (v_ 1)) (gN 4 sc__law_digits.nd) (ss1 (sIf (tVa (v_ 2)) (ssC (aaJ 0 (eD (aoB ZZ) hr (aC (v_ 0) aN)) sc__law_digits.nd)
   (ss1 (apC (arB (v_ 3) (eOp ab3 (eOp ajI (v_ 0) eI) (v_ 4)))))) (ssC (apC (arB (v_ 3) (eOp ab3 (v_ 0) (v_ 4))))
   (ss1 (aaJ 0 (eOp ajI (v_ 0) (v_ 4)) sc__law_digits.nd))))) PassesOwn.never)
   (ss1 (aaH (v_ 3)))))),?_⟩
 refine⟨(zL 0),fun fl hfl=>?_⟩
 refine⟨_,rfl,_,rfl,aE3 (fun _=>?_) (fun _=>⟨_,rfl,_,rfl,_,_,rfl,rfl,⟨by decide,by decide,by decide⟩,_,_,rfl,rfl,?_⟩)⟩
 all_goals
  refine⟨_,rfl,a,rfl,⟨_,(aaB hfl _).seq hS⟩,abX (K:=K) (a:=a) (xs:=ss.map V.int) (fun i σ H2=>∃(c':Int) (b':Bool) (u:Option V) (ds:List Int),σ=[some (.int c'),some (.ref a),some (.bl b'),some (.ref fl),u]/\Same H H2/\H2 fl=some (.lst (ds.map V.int))/\Digs ds (ss.take i)) ⟨_,_,_,[],rfl,aaB hfl _,aaA,.nil⟩ (fun i σ H2 _ ⟨_,_,_,_,_,s2,_⟩=>s2.seq hS) ?_ ?_⟩
  ·rintro i x σ H2 hx ⟨c',b',u,ds,rfl,s2,hf,hd⟩
   rw[bA] at hx
   cases e:ss[i]? with
   |none=>rw[e] at hx;cases hx
   |some z=>
    rw[e] at hx
    obtain rfl:V.int z=x:=a8 hx
    have hzz:=hz z (bI e)
    have et:ss.take (i+1)=ss.take i++[z]:=by rw[b7,e];rfl
    have hdl:(ds.map V.int).length<sizeLine:=by
     have q1:=hd.len
     rw[dC] at q1
     rw[aU,dZ]
     omega
    have app:∀d:Int,(ds.map V.int)++[V.int d]=(ds++[d]).map V.int:=fun d=>by rw[bH];rfl
    refine⟨_,rfl,_,rfl,?_⟩
    cases b' with
    |true=>
     refine abF ⟨_,rfl,_,rfl,fun r hr0 hr1=>?_⟩
     refine⟨_,rfl,.inl ⟨rfl,_,SqL.of hf⟩,_,rfl,_,_,rfl,rfl,⟨by decide,by decide⟩,_,rfl,_,_,rfl,rfl,hzz.1,fl,_,_,rfl,rfl,hf,hdl,?_⟩
     refine⟨_,_,_,ds++[r / 8%z],rfl,ab7 hfl s2,by rw[app];exact aaA,?_⟩
     rw[et]
     exact hd.snoc (cN _ (Int.ne_of_gt hzz.1)) (c7 _ hzz.1)
    |false=>
     refine aa1 ⟨_,rfl,.inl ⟨rfl,_,SqL.of hf⟩,_,rfl,_,rfl,_,_,rfl,rfl,hzz.1,fl,_,_,rfl,rfl,hf,hdl,?_⟩
     refine⟨_,rfl,_,rfl,_,_,rfl,rfl,hzz,?_⟩
     refine⟨_,_,_,ds++[c'%z],rfl,ab7 hfl s2,by rw[app];exact aaA,?_⟩
     rw[et]
     exact hd.snoc (cN _ (Int.ne_of_gt hzz.1)) (c7 _ hzz.1)
  ·rintro σ H2 ⟨c',b',u,ds,rfl,s2,hf,hd⟩
   rw[aU,cF] at hd
   exact⟨_,rfl,q ds fl H2 s2 hf hd⟩
theorem ayB:Df P w K mg base "never" 7 ["row"] (ayI K aB aE aF aH aD aA aG aI aJ):=by
 refine ZZ.eq.dfs az0 (fun vs H Q E h=>?_) (fun f cdv A outer s H vs Q E hr h=>?_)
 ·obtain⟨_,_,_,_,_,_,rfl,_⟩:=h
  rfl
 obtain⟨p,m0,m1,m3,kd,kw,rfl,hR,q⟩:=h
 refine⟨_,(ss1 (aaH (eCB aQF ZZ.dp boot_all (aC (alM ["row"] [0] (iR1 ZZ.ac (aC (eGl (v:=.int 91) ZZ.eo ⟨_,rfl⟩) aN)) (fun _ _ _ _ _ _=>fsN) (fun _ _ _ _ _ _=>(acT oEq (eMe ZZ.ab.cl (abV ZZ) hr (v_ 1) (aC (v_ 0) aN)) eI))) aN)))),?_⟩
 obtain⟨dx,dv,wv,hp,hn,hb,hd,hw⟩:=hR
 refine⟨_,rfl,by decide,by decide,adG (fun i l=>l=((List.range i).map fun k:Nat=>decide (dIn m3 kd kw (k:Int)=0)).map V.bl) (zL 91) rfl ?_ ?_⟩
 ·intro i l D H3 E' F' hi hR hD s3 hl hE hF
  subst hR
  have hi':i<91:=hi
  refine⟨_,rfl,p,dx,_,rfl,s3 _ _ hp,abQ ..,_,rfl,p,dx,m0,m1,m3,tmF m1 m0,_,dv,wv,kd,kw,rfl,s3 _ _ hp,⟨by omega,by omega⟩,hn.2.2,hd.keep s3,hw.keep s3,fun H4 s4=>⟨rfl,hE _ _ s4 ?_⟩⟩
  rw[List.range_succ,bH,bH]
  have e:decide (V.int (dIn m3 kd kw (0+(i:Int)))=V.int 0)=decide (dIn m3 kd kw (i:Int)=0):=by rw[Int.zero_add];exact decide_eq_decide.mpr int_eq
  show _++[V.bl (decide (V.int (dIn m3 kd kw (0+(i:Int)))=V.int 0))]=_
  rw[e]
  rfl
 ·intro D H3 l hR hD s3 hl
  subst hR
  exact⟨D,_,rfl,SqL.of hl,q H3 s3⟩
theorem anO:Df P w K mg base "_law_near" 1 ["_law_day","_law_last","_law_first"] (apO K):=by
 refine ZZ.de.dfs sc__law_near (fun vs H Q E h=>?_) (fun f cdv A outer s H vs Q E hr h=>?_)
 ·obtain⟨_,_,_,rfl,_⟩:=h
  rfl
 obtain⟨d,l,fi,rfl,hl,hd,q⟩:=h
 refine⟨_,(ssC (acZ (iR1 ZZ.ac (aC eI aN)) (gN 3 sc__law_near.nd) (ss1 (acZ (iL (ab0 (aC (eOp abA (v_ 0) (v_ 3)) (aC (eOp aa2 (v_ 0) (v_ 3)) aN)))) (gN 4 sc__law_near.nd) (ss1 (sIf (tW (anN (tCh oLe oLe eI (v_ 4) (v_ 1)) (ah8 (tCh oLe oLe eI (eOp ab3 (eOp abA (eOp aa2 (v_ 2) (v_ 4)) eI) eI) eI)))) (ss1 (aaH (v_ 4))) ssN)) PassesOwn.never)) PassesOwn.never)
   (ss1 (aaH eI))),?_⟩
 rw[←ayJ hl hd] at q
 refine⟨_,rfl,by decide,by decide,abS (fun i σ H2=>∃v3 v4:Option V,σ=[some (.int d),some (.int l),some (.int fi),v3,v4]/\Same H H2/\ak4 l fi [d-0,d+0,d-1,d+1,d-2,d+2]=ak4 l fi ([d-0,d+0,d-1,d+1,d-2,d+2].drop (2*i))) ⟨_,_,rfl,Same.refl _,rfl⟩ ?turn ?done⟩
 case done=>
  rintro σ H2 ⟨v3,v4,rfl,s2,e⟩
  rw[e] at q
  exact q H2 s2
 case turn=>
  rintro i σ H2 hi ⟨v3,v4,rfl,s2,e⟩
  have hi3:i<3:=hi
  refine⟨_,rfl,_,rfl,_,_,rfl,rfl,_,rfl,_,rfl,_,_,rfl,rfl,(zL 2),fun L hL=>?_⟩
  have sL:=aaB hL (.lst [V.int (d-(0+(i:Int))),V.int (d+(0+(i:Int)))])
  refine⟨L,rfl,⟨_,SqL.of aaA⟩,abX (K:=K) (a:=L) (xs:=[V.int (d-(0+(i:Int))),V.int (d+(0+(i:Int)))]) (fun j σ Hc=>∃v4:Option V,σ=[some (.int d),some (.int l),some (.int fi),some (.int (0+(i:Int))),v4]/\Same H2 Hc/\Hc L=some (.lst [V.int (d-(0+(i:Int))),V.int (d+(0+(i:Int)))])/\ak4 l fi [d-0,d+0,d-1,d+1,d-2,d+2]=ak4 l fi ([d-0,d+0,d-1,d+1,d-2,d+2].drop (2*i+j))) ⟨_,rfl,sL,aaA,e⟩ (fun j σ Hc _ ⟨_,_,_,z,_⟩=>SqL.of z) ?tn ?dn⟩
  case dn=>
   rintro σ Hc ⟨v4,rfl,sc,_,e⟩
   exact⟨_,_,rfl,s2.trans sc,e⟩
  case tn=>
   rintro j x σ Hc hx ⟨v4,rfl,sc,hc,e⟩
   obtain⟨z,rfl,hz⟩:∃z:Int,x=.int z/\[d-0,d+0,d-1,d+1,d-2,d+2].drop (2*i+j)=z::[d-0,d+0,d-1,d+1,d-2,d+2].drop (2*i+(j+1)):=by
    have hj:j<2:=by
     rcases cV j 2 with w' | w'
     ·exact w'
     ·rw[dJ (by exact w')] at hx;cases hx
    match i,j,hi3,hj,hx with
    |0,0,_,_,hx=>cases hx;exact⟨_,rfl,rfl⟩
    |0,1,_,_,hx=>cases hx;exact⟨_,rfl,rfl⟩
    |1,0,_,_,hx=>cases hx;exact⟨_,rfl,rfl⟩
    |1,1,_,_,hx=>cases hx;exact⟨_,rfl,rfl⟩
    |2,0,_,_,hx=>cases hx;exact⟨_,rfl,rfl⟩
    |2,1,_,_,hx=>cases hx;exact⟨_,rfl,rfl⟩
   rw[hz] at e
   have eh:ak4 l fi (z::[d-0,d+0,d-1,d+1,d-2,d+2].drop (2*i+(j+1)))=if okW l fi z=true then z else ak4 l fi ([d-0,d+0,d-1,d+1,d-2,d+2].drop (2*i+(j+1))):=rfl
   rw[eh] at e
   have no:okW l fi z=false->∃v4:Option V,[some (V.int d),some (.int l),some (.int fi),some (.int (0+(i:Int))),some (.int z)]=[some (V.int d),some (.int l),some (.int fi),some (.int (0+(i:Int))),v4]/\Same H2 Hc/\Hc L=some (.lst [V.int (d-(0+(i:Int))),V.int (d+(0+(i:Int)))])/\ak4 l fi [d-0,d+0,d-1,d+1,d-2,d+2]=ak4 l fi ([d-0,d+0,d-1,d+1,d-2,d+2].drop (2*i+(j+1))):=fun n=>⟨_,rfl,sc,hc,by rw[e,if_neg (by rw[n];decide)]⟩
   have t1:=cN (fi+z-1) (show (7:Int)≠0 by decide)
   refine⟨_,rfl,_,_,rfl,rfl,_,rfl,ifD (fun c1=>⟨_,rfl,_,_,rfl,rfl,_,rfl,ifD (fun c2=>⟨_,rfl,_,rfl,_,_,rfl,rfl,_,_,rfl,rfl,_,_,rfl,rfl,(by show (0:Int)<7;decide),_,_,rfl,rfl,_,rfl,ifD (fun c3=>⟨_,_,rfl,rfl,_,rfl,ifD (fun c4=>?hit) (fun c4=>?m4)⟩) (fun c3=>?m3)⟩) (fun c2=>?m2)⟩) (fun c1=>?m1)⟩
   case hit=>
    have y:okW l fi z=true:=by unfold okW;rw[eC c1,eC c2,eC c3,eC c4];rfl
    rw[if_pos y] at e
    rw[e] at q
    exact⟨_,rfl,q Hc (s2.trans sc)⟩
   case m1=>exact⟨_,rfl,aa1 (aa1 (no (by unfold okW;rw[eF c1];rfl)))⟩
   case m2=>exact aa1 (no (by unfold okW;rw[eF c2,cS];rfl))
   case m3=>exact⟨_,rfl,aa1 (no (by unfold okW;rw[eF c3];exact cS _))⟩
   case m4=>exact no (by unfold okW;rw[eF c4,cS];exact cS _)
theorem alC:Df P w K mg base "_law_marked" 2 ["_law_mark","_law_day","_law_last","_law_first"] (akY K):=by
 refine ZZ.cn.dfs sc__law_marked (fun vs H Q E h=>?_) (fun f cdv A outer s H vs Q E hr h=>?_)
 ·obtain⟨_,_,_,_,_,rfl,_⟩:=h
  rfl
 obtain⟨v,k,d,l,fi,rfl,hk,ok,hl,hd,q⟩:=h
 refine⟨_,(ssC (aJJ (v_ 0) (gTu (gsC (gN 4 sc__law_marked.nd) (gsC (gN 5 sc__law_marked.nd) (gsC (gN 6 sc__law_marked.nd) gsN)))))
   (ssC (aaJ 7 (eOp ab3 (eOp abA (eOp aa2 (v_ 3) (v_ 1)) eI) eI) sc__law_marked.nd)
   (ssC (sIf (tCm oEq (v_ 4) (eSx [110,117,109])) (ss1 (aaH (acT oIn (v_ 1) (v_ 5)))) ssN)
   (ssC (sIf (tCm oEq (v_ 4) (eSx [108,97,115,116])) (ss1 (aaH (acT oEq (v_ 1) (eOp abA (v_ 2) (v_ 5))))) ssN)
   (ssC (sIf (tCm oEq (v_ 4) (eSx [110,101,97,114])) (ss1 (aaH (aqR (acT oLe (v_ 5) (v_ 2)) (aiX (acT oEq (v_ 1) (eD (anO ZZ) hr (aC (v_ 5) (aC (v_ 2) (aC (v_ 3) aN))))))))) ssN)
   (ssC (sIf (tCm oEq (v_ 4) (eSx [119,111,114,107])) (ss1 (aaH (acT oEq (v_ 1) (eCB aEC ZZ.bs PyProof.Rows.boot_max (aC (alM ["_law_first"] [3] (iR2 ZZ.ac (aC (eOp abA (v_ 2) eI) (aC (eOp aa2 (v_ 2) eI) aN))) (fun _ _ _ _ _ _=>(fs1 (tCh oLe oLe eI (eOp ab3 (eOp abA (eOp aa2 (v_ 1) (v_ 0)) eI) eI) eI))) (fun _ _ _ _ _ _=>(v_ 0))) aN))))) ssN)
   (ssC (sIf (tCm oEq (v_ 4) (eSx [119,101,101,107])) (ss1 (aaH (acT oIn (v_ 7) (v_ 5)))) ssN)
   (ssC (sIf (tCm oEq (v_ 4) (eSx [110,116,104])) (ss1 (aaH (aqR (acT oEq (v_ 7) (v_ 5)) (aiX (acT oEq (eOp ajI (eOp abA (v_ 1) eI) eI) (eOp abA (v_ 6) eI)))))) ssN)
   (ss1 (aaH (aqR (acT oEq (v_ 7) (v_ 5)) (aiX (acT oGt (eOp aa2 (v_ 1) eI) (v_ 2)))))))))))))),?_⟩
 obtain⟨u,x,y,tw,rfl,hu,hk⟩:=hk
 refine⟨_,rfl,u,_,rfl,SqT.of hu,rfl,_,_,rfl,_,_,rfl,_,_,rfl,rfl,?_⟩
 refine⟨_,rfl,_,rfl,_,_,rfl,rfl,_,_,rfl,rfl,_,_,rfl,rfl,(by show (0:Int)<7;decide),?_⟩
 cases k with
 |num m=>
  obtain⟨rfl,a,ns,rfl,ha,rfl,hns⟩:=hk
  refine⟨_,rfl,rfl,_,rfl,ifX (fun _=>⟨_,rfl,_,rfl,a,_,rfl,.inl (SqL.of ha),rfl,(bZ.mpr fun x hx=>by obtain⟨n,_,rfl⟩:=bL.mp hx;rfl),?_⟩) (fun c=>absurd rfl c)⟩
  have e:tb (Mk.due (.num (aaO ns)) l fi) d.toNat=inV (.int d) (ns.map V.int):=by
   rw[aCO ok hl hd,abW,avT]
   refine aq4 fun n hn=>?_
   have h1:=hns n hn
   have h2:=hd.1
   exact decide_eq_decide.mpr ⟨fun h=>by omega,fun h=>by omega⟩
  have q1:=q H (Same.refl _)
  rw[e] at q1
  exact q1
 |lst b=>
  obtain⟨rfl,rfl⟩:=hk
  have q1:=q H (Same.refl _)
  rw[aBA ok hl hd,←aeV] at q1
  exact⟨_,rfl,rfl,_,rfl,ifX (fun c=>absurd c (by decide)) (fun _=>⟨_,rfl,rfl,_,rfl,ifX (fun _=>⟨_,rfl,_,rfl,_,rfl,_,_,rfl,rfl,rfl,q1⟩) (fun c=>absurd rfl c)⟩)⟩
 |nea x=>
  obtain⟨rfl,rfl⟩:=hk
  have e:=aBI (f:=fi) ok hl hd
  refine⟨_,rfl,rfl,_,rfl,ifX (fun c=>absurd c (by decide)) (fun _=>⟨_,rfl,rfl,_,rfl,ifX (fun c=>absurd c (by decide)) (fun _=>⟨_,rfl,rfl,_,rfl,ifX (fun _=>⟨_,rfl,_,rfl,_,_,rfl,rfl,_,rfl,ifD (fun c=>?_) (fun c=>?_)⟩) (fun c=>absurd rfl c)⟩)⟩)⟩
  ·have q1:∀H',Same H H'->Q (.bl (decide (d=nw x l fi))) H':=fun H' s=>by
    have z:=q H' s
    rw[e,eC c,cZ] at z
    exact z
   refine⟨_,rfl,_,rfl,_,rfl,_,rfl,x,l,fi,rfl,hl,⟨ok.1,c⟩,fun H' s=>⟨rfl,?_⟩⟩
   have z:=q1 H' s
   rw[←aeV] at z
   exact z
  ·have q1:=q H (Same.refl _)
   rw[e,eF c,cW] at q1
   exact q1
 |nth wd m=>
  obtain⟨rfl,rfl,rfl⟩:=hk
  have q1:=q H (Same.refl _)
  rw[aB7 ok.1 ok.2 hl hd] at q1
  refine⟨_,rfl,rfl,_,rfl,ifX (fun c=>absurd c (by decide)) (fun _=>⟨_,rfl,rfl,_,rfl,ifX (fun c=>absurd c (by decide)) (fun _=>⟨_,rfl,rfl,_,rfl,ifX (fun c=>absurd c (by decide)) (fun _=>⟨_,rfl,rfl,_,rfl,ifX (fun c=>absurd c (by decide)) (fun _=>⟨_,rfl,rfl,_,rfl,ifX (fun c=>absurd c (by decide)) (fun _=>⟨_,rfl,rfl,_,rfl,ifX (fun _=>⟨_,rfl,_,rfl,rfl,_,rfl,ifI (fun c=>?_) (fun c=>?_)⟩) (fun c=>absurd rfl c)⟩)⟩)⟩)⟩)⟩)⟩
  ·rw[eC c,cZ,←aeV] at q1
   exact⟨_,rfl,_,_,rfl,rfl,_,_,rfl,rfl,⟨by decide,by decide⟩,_,rfl,_,_,rfl,rfl,rfl,q1⟩
  ·rw[eF c,cW] at q1
   exact q1
 |wrk=>exact hk.elim
 |wkd _=>exact hk.elim
 |one _=>exact hk.elim
 |nil=>exact hk.elim
theorem acX:Df P w K mg base "_law_any" 3 ["_law_marks","_law_day","_law_last","_law_first"] (ar1 K):=by
 refine ZZ.d4.dfs sc__law_any (fun vs H Q E h=>?_) (fun f cdv A outer s H vs Q E hr h=>?_)
 ·obtain⟨_,_,_,_,_,_,rfl,_⟩:=h
  rfl
 obtain⟨a,us,ks,d,l,fi,rfl,ha,hP,ok,hl,hd,q⟩:=h
 refine⟨_,(ssC (acZ (iL (v_ 0)) (gN 4 sc__law_any.nd) (ss1 (sIf (tVa (eD (alC ZZ) hr (aC (v_ 4) (aC (v_ 1) (aC (v_ 2) (aC (v_ 3) aN)))))) (ss1 (aaH eB)) ssN)) PassesOwn.never)
   (ss1 (aaH eB))),?_⟩
 refine⟨_,rfl,a,rfl,⟨_,SqL.of ha⟩,abX (K:=K) (a:=a) (xs:=us) (fun i σ H2=>∃v4:Option V,σ=[some (.ref a),some (.int d),some (.int l),some (.int fi),v4]/\Same H H2/\(ks.any fun k=>tb (k.due l fi) d.toNat)=((ks.drop i).any fun k=>tb (k.due l fi) d.toNat)) ⟨_,rfl,Same.refl _,rfl⟩ (fun i σ H2 _ ⟨_,_,s,_⟩=>SqL.of (s _ _ ha)) ?turn ?done⟩
 case done=>
  rintro σ H2 ⟨v4,rfl,s2,e⟩
  rw[afP hP,List.drop_length] at e
  have q1:=q H2 s2
  rw[e] at q1
  exact q1
 case turn=>
  rintro i x σ H2 hx ⟨v4,rfl,s2,e⟩
  obtain⟨k,hk,hm⟩:=amY hP hx
  have hdr:ks.drop i=k::ks.drop (i+1):=by
   have hi:=(cB.mp hk).1
   rw[List.drop_eq_getElem_cons hi,(cB.mp hk).2]
  rw[hdr,bN] at e
  refine⟨_,rfl,_,rfl,_,rfl,_,rfl,x,k,d,l,fi,rfl,hm.keep s2,ok k (bI hk),hl,hd,fun H3 s3=>⟨_,rfl,?_⟩⟩
  cases c:tb (k.due l fi) d.toNat with
  |true=>
   rw[c,Bool.true_or] at e
   have q1:=q H3 (s2.trans s3)
   rw[e] at q1
   exact abF q1
  |false=>
   rw[c,c8] at e
   exact aa1 ⟨_,rfl,s2.trans s3,e⟩
theorem ahY:Df P w K mg base "_law_day_held" 4 ["_law_spec_here","_law_day","_law_last","_law_first"] (ahW K):=by
 refine ZZ.b1.dfs sc__law_day_held (fun vs H Q E h=>?_) (fun f cdv A outer s H vs Q E hr h=>?_)
 ·obtain⟨_,_,_,_,_,_,_,_,_,_,_,_,rfl,_⟩:=h
  rfl
 obtain⟨s0,x0,x1,x2,v3,x4,v5,kd,kw,d,l,fi,rfl,hs,h3,h5,hl,hd,q⟩:=h
 refine⟨_,(ssC (aaJ 4 (eIx xT (v_ 0) eI) sc__law_day_held.nd)
   (ssK (aaJ 5 (eIx xT (v_ 0) eI) sc__law_day_held.nd)
   (ssC (sIf (tW (anN (tCm ac4 (v_ 4) eN) (ah8 (tCm ac4 (v_ 5) eN)))) (ss1 (aaH eB)) ssN)
   (ssC (sIf (tCm ac4 (v_ 4) eN) (ss1 (aaH (eD (acX ZZ) hr (aC (v_ 5) (aC (v_ 1) (aC (v_ 2) (aC (v_ 3) aN))))))) ssN)
   (ssC (sIf (tCm ac4 (v_ 5) eN) (ss1 (aaH (eD (acX ZZ) hr (aC (v_ 4) (aC (v_ 1) (aC (v_ 2) (aC (v_ 3) aN))))))) ssN)
   (ss1 (aaH (eOr (eD (acX ZZ) hr (aC (v_ 4) (aC (v_ 1) (aC (v_ 2) (aC (v_ 3) aN))))) (aiX (eD (acX ZZ) hr (aC (v_ 5) (aC (v_ 1) (aC (v_ 2) (aC (v_ 3) aN)))))))))))))),?_⟩
 have e:=azG (kd:=kd) (kw:=kw) hl hd h3.ok h5.ok
 rw[e] at q
 refine⟨_,rfl,s0,_,_,_,rfl,rfl,SqT.of hs,rfl,?_⟩
 refine⟨(fun σ' H'=>σ'=[some (.ref s0),some (.int d),some (.int l),some (.int fi),some v3,some v5]/\H'=H),⟨_,rfl,s0,_,_,_,rfl,rfl,SqT.of hs,rfl,rfl,rfl⟩,?_⟩
 rintro σ' H' ⟨rfl,rfl⟩
 rcases h3 with ⟨rfl,rfl⟩ | ⟨a,us,ks,rfl,rfl,ha,hP,ok⟩
 ·rcases h5 with ⟨rfl,rfl⟩ | ⟨a,us,ks,rfl,rfl,ha,hP,ok⟩
  ·exact⟨_,rfl,rfl,_,rfl,ifD (fun _=>⟨_,rfl,rfl,_,rfl,ifD (fun _=>q H' (Same.refl _)) (fun c=>absurd rfl c)⟩) (fun c=>absurd rfl c)⟩
  ·refine⟨_,rfl,rfl,_,rfl,ifD (fun _=>⟨_,rfl,rfl,_,rfl,ifD (fun c=>by cases c) (fun _=>?_)⟩) (fun c=>absurd rfl c)⟩
   refine⟨_,rfl,rfl,_,rfl,ifD (fun _=>?_) (fun c=>absurd rfl c)⟩
   exact⟨_,rfl,_,rfl,_,rfl,_,rfl,a,us,ks,d,l,fi,rfl,ha,hP,ok,hl,hd,q⟩
 ·refine⟨_,rfl,rfl,_,rfl,ifD (fun c=>by cases c) (fun _=>aa1 ⟨_,rfl,rfl,_,rfl,ifD (fun c=>by cases c) (fun _=>?_)⟩)⟩
  rcases h5 with ⟨rfl,rfl⟩ | ⟨a',us',ks',rfl,rfl,ha',hP',ok'⟩
  ·refine⟨_,rfl,rfl,_,rfl,ifD (fun _=>?_) (fun c=>absurd rfl c)⟩
   refine⟨_,rfl,_,rfl,_,rfl,_,rfl,a,us,ks,d,l,fi,rfl,ha,hP,ok,hl,hd,fun H1 s1=>?_⟩
   have z:=q H1 s1
   rw[show (((some ks).isNone&&(none:Option (List Mk)).isNone)||(orP (some ks) l fi d.toNat||orP none l fi d.toNat))=(ks.any fun k=>tb (k.due l fi) d.toNat) from Bool.or_false _] at z
   exact z
  ·refine⟨_,rfl,rfl,_,rfl,ifD (fun c=>by cases c) (fun _=>?_)⟩
   refine⟨_,rfl,_,rfl,_,rfl,_,rfl,a,us,ks,d,l,fi,rfl,ha,hP,ok,hl,hd,fun H1 s1=>⟨_,rfl,?_⟩⟩
   have z:∀H',Same _ H'->Q (.bl ((ks.any fun k=>tb (k.due l fi) d.toNat)||(ks'.any fun k=>tb (k.due l fi) d.toNat))) H':=q
   cases c:ks.any fun k=>tb (k.due l fi) d.toNat with
   |true=>
    rw[c,Bool.true_or] at z
    exact abF (z H1 s1)
   |false=>
    rw[c,c8] at z
    exact aa1 ⟨_,rfl,_,rfl,_,rfl,_,rfl,a',us',ks',d,l,fi,rfl,s1 _ _ ha',Paired.mapP hP' (fun _ _ y=>y.keep s1),ok',hl,hd,fun H2 s2=>z H2 (s1.trans s2)⟩
theorem apD:Df P w K mg base "_law_rare" 1 ["_law_sort","_law_one","_law_later"] (aoG K):=by
 refine ZZ.df.dfs sc__law_rare (fun vs H Q E h=>?_) (fun f cdv A outer s H vs Q E hr h=>?_)
 ·obtain⟨_,_,_,rfl,_⟩:=h
  rfl
 obtain⟨st,o,la,rfl,hb,q⟩:=h
 refine⟨_,(ssK (aaJ 3 (ab0 (aC (abN (aC (eCT ah7 ZZ.ag PyProof.Rows.boot_str (aC (v_ 1) aN)) (aC (ab0 (aC (abN (aC (eSx [110,117,109]) (aC (ab0 (aC (v_ 1) aN)) (aC eI aN)))) aN)) aN))) (aC (abN (aC (eOp am2 (eSx [76,45]) (eCT ah7 ZZ.ag PyProof.Rows.boot_str (aC (eOp abA (v_ 1) eI) aN))) (aC (ab0 (aC (abN (aC (eSx [108,97,115,116]) (aC (eOp abA (v_ 1) eI) (aC eI aN)))) aN)) aN))) aN))) sc__law_rare.nd)
   (ssK (apC (arB (v_ 3) (abN (aC (eOp am2 (eCT ah7 ZZ.ag PyProof.Rows.boot_str (aC (v_ 1) aN)) (eSx [87])) (aC (ab0 (aC (abN (aC (eSx [110,101,97,114]) (aC (v_ 1) (aC eI aN)))) aN)) aN)))))
   (ssK (apC (arB (v_ 3) (abN (aC (eOp am2 (eOp am2 (eOp am2 (eCT ah7 ZZ.ag PyProof.Rows.boot_str (aC (v_ 1) aN)) (eSx [44])) (eCT ah7 ZZ.ag PyProof.Rows.boot_str (aC (v_ 2) aN))) (eSx [87])) (aC (ab0 (aC (abN (aC (eSx [110,117,109]) (aC (ab0 (aC (v_ 1) aN)) (aC eI aN)))) (aC (abN (aC (eSx [110,101,97,114]) (aC (v_ 2) (aC eI aN)))) aN))) aN)))))
   (ssK (apC (arB (v_ 3) (abN (aC (eSx [42]) (aC eN aN)))))
   (ss1 (aaH (eIx xL (v_ 3) (v_ 0)))))))),?_⟩
 obtain⟨b1,b2,b3⟩:=hb
 have so:=ag3 (z:=o) (by omega) (by omega)
 have sp_:=ag3 (z:=o-1) (by omega) (by omega)
 have sl:=ag3 (z:=la) (by omega) (by omega)
 have in1:∀n∈[o],1<=n/\n<=31:=fun n hn=>by rw[bE.mp hn];omega
 refine⟨au2 st o la H 2,?_,?_⟩
 ·refine⟨_,rfl,o.toNat,so.2.1,so.1,_,rfl,(zL 1),fun a1 nn1=>?_⟩
  have r1:=aaB nn1 (.lst [.int o])
  have G1:upd H a1 (.lst [.int o]) a1=some (.lst [.int o]):=aaA
  generalize upd H a1 (.lst [.int o])=E1 at r1 G1 ⊢
  refine⟨(zL 3),fun u1 nn2=>?_⟩
  have r2:=aaB nn2 (.tup [.str (Tx [110,117,109]),.ref a1,.int 0])
  have G2:upd E1 u1 (.tup [.str (Tx [110,117,109]),.ref a1,.int 0]) u1=some (.tup [.str (Tx [110,117,109]),.ref a1,.int 0]):=aaA
  generalize upd E1 u1 (.tup [.str (Tx [110,117,109]),.ref a1,.int 0])=E2 at r2 G2 ⊢
  refine⟨(zL 1),fun l1 nn3=>?_⟩
  have r3:=aaB nn3 (.lst [.ref u1])
  have G3:upd E2 l1 (.lst [.ref u1]) l1=some (.lst [.ref u1]):=aaA
  generalize upd E2 l1 (.lst [.ref u1])=E3 at r3 G3 ⊢
  refine⟨(zL 2),fun t1 nn4=>?_⟩
  have r4:=aaB nn4 (.tup [.str (Tx (num o.toNat)),.ref l1])
  have G4:upd E3 t1 (.tup [.str (Tx (num o.toNat)),.ref l1]) t1=some (.tup [.str (Tx (num o.toNat)),.ref l1]):=aaA
  generalize upd E3 t1 (.tup [.str (Tx (num o.toNat)),.ref l1])=E4 at r4 G4 ⊢
  refine⟨_,rfl,_,_,rfl,rfl,(o-1).toNat,sp_.2.1,sp_.1,_,_,rfl,rfl,(by rw[dZ];show 2+_<=_;have:=sp_.2.2.1;omega),_,rfl,_,_,rfl,rfl,(zL 3),fun u2 nn5=>?_⟩
  have r5:=aaB nn5 (.tup [.str (Tx [108,97,115,116]),.int (o-1),.int 0])
  have G5:upd E4 u2 (.tup [.str (Tx [108,97,115,116]),.int (o-1),.int 0]) u2=some (.tup [.str (Tx [108,97,115,116]),.int (o-1),.int 0]):=aaA
  generalize upd E4 u2 (.tup [.str (Tx [108,97,115,116]),.int (o-1),.int 0])=E5 at r5 G5 ⊢
  refine⟨(zL 1),fun l2 nn6=>?_⟩
  have r6:=aaB nn6 (.lst [.ref u2])
  have G6:upd E5 l2 (.lst [.ref u2]) l2=some (.lst [.ref u2]):=aaA
  generalize upd E5 l2 (.lst [.ref u2])=E6 at r6 G6 ⊢
  refine⟨(zL 2),fun t2 nn7=>?_⟩
  have r7:=aaB nn7 (.tup [.str (Tx ([76,45]++num (o-1).toNat)),.ref l2])
  have G7:upd E6 t2 (.tup [.str (Tx ([76,45]++num (o-1).toNat)),.ref l2]) t2=some (.tup [.str (Tx ([76,45]++num (o-1).toNat)),.ref l2]):=aaA
  generalize upd E6 t2 (.tup [.str (Tx ([76,45]++num (o-1).toNat)),.ref l2])=E7 at r7 G7 ⊢
  refine⟨(zL 2),fun M nn8=>?_⟩
  have r8:=aaB nn8 (.lst [.ref t1,.ref t2])
  have G8:upd E7 M (.lst [.ref t1,.ref t2]) M=some (.lst [.ref t1,.ref t2]):=aaA
  generalize upd E7 M (.lst [.ref t1,.ref t2])=E8 at r8 G8 ⊢
  have f8:=r8
  have f7:=r7.trans f8
  have f6:=r6.trans f7
  have f5:=r5.trans f6
  have f4:=r4.trans f5
  have f3:=r3.trans f4
  have f2:=r2.trans f3
  have f1:=r1.trans f2
  have ge1:=(aaR (H:=E8) (a:=M) (aaG (r7 _ _ (r6 _ _ (r5 _ _ (r4 _ _ (r3 _ _ (r2 _ _ (G1))))))) nn8)).trans (f2 _ _ G1)
  have ge2:=(aaR (H:=E8) (a:=M) (aaG (r7 _ _ (r6 _ _ (r5 _ _ (r4 _ _ (r3 _ _ (G2)))))) nn8)).trans (f3 _ _ G2)
  have ge3:=(aaR (H:=E8) (a:=M) (aaG (r7 _ _ (r6 _ _ (r5 _ _ (r4 _ _ (G3))))) nn8)).trans (f4 _ _ G3)
  have ge4:=(aaR (H:=E8) (a:=M) (aaG (r7 _ _ (r6 _ _ (r5 _ _ (G4)))) nn8)).trans (f5 _ _ G4)
  have ge5:=(aaR (H:=E8) (a:=M) (aaG (r7 _ _ (r6 _ _ (G5))) nn8)).trans (f6 _ _ G5)
  have ge6:=(aaR (H:=E8) (a:=M) (aaG (r7 _ _ (G6)) nn8)).trans (f7 _ _ G6)
  have ge7:=(aaR (H:=E8) (a:=M) (aaG (G7) nn8)).trans (f8 _ _ G7)
  refine⟨M,_,rfl,(((((((r1.trans r2).trans r3).trans r4).trans r5).trans r6).trans r7)).free nn8,f1,G8,rfl,fun v hv=>?_⟩
  simp only[aY,cA,or_false] at hv
  rcases hv with rfl | rfl
  ·exact⟨t1,_,_,_,rfl,ge4,rr0 b2,.inr ⟨l1,_,_,rfl,rfl,ge3,.cons ⟨u1,_,_,_,rfl,ge2,rfl,a1,[o],rfl,ge1,rfl,in1⟩ .nil,(fun k hk=>by rw[bE.mp hk];exact (akA b2).2.2.2)⟩⟩
  ·exact⟨t2,_,_,_,rfl,ge7,rr1 b2,.inr ⟨l2,_,_,rfl,rfl,ge6,.cons ⟨u2,_,_,_,rfl,ge5,rfl,rfl⟩ .nil,(fun k hk=>by rw[bE.mp hk];exact (avL b2).2.2.2)⟩⟩
 rintro σ' HB ⟨M,xs,rfl,hN,sB,hM,hx,hall⟩
 refine⟨au2 st o la H 3,?_,?_⟩
 ·refine⟨_,rfl,.inl ⟨rfl,_,SqL.of hM⟩,_,rfl,o.toNat,so.2.1,so.1,_,_,rfl,rfl,(by rw[dZ];show _+1<=_;have:=so.2.2.1;omega),_,rfl,(zL 3),fun u1 nn1=>?_⟩
  have r1:=aaB nn1 (.tup [.str (Tx [110,101,97,114]),.int o,.int 0])
  have G1:upd HB u1 (.tup [.str (Tx [110,101,97,114]),.int o,.int 0]) u1=some (.tup [.str (Tx [110,101,97,114]),.int o,.int 0]):=aaA
  generalize upd HB u1 (.tup [.str (Tx [110,101,97,114]),.int o,.int 0])=E1 at r1 G1 ⊢
  refine⟨(zL 1),fun l1 nn2=>?_⟩
  have r2:=aaB nn2 (.lst [.ref u1])
  have G2:upd E1 l1 (.lst [.ref u1]) l1=some (.lst [.ref u1]):=aaA
  generalize upd E1 l1 (.lst [.ref u1])=E2 at r2 G2 ⊢
  refine⟨(zL 2),fun t1 nn3=>?_⟩
  have r3:=aaB nn3 (.tup [.str (Tx (num o.toNat++[87])),.ref l1])
  have G3:upd E2 t1 (.tup [.str (Tx (num o.toNat++[87])),.ref l1]) t1=some (.tup [.str (Tx (num o.toNat++[87])),.ref l1]):=aaA
  generalize upd E2 t1 (.tup [.str (Tx (num o.toNat++[87])),.ref l1])=E3 at r3 G3 ⊢
  have f3:=r3
  have f2:=r2.trans f3
  have f1:=r1.trans f2
  have hM':=f1 _ _ hM
  have ge1:=(aaR (H:=E3) (a:=M) (Ne.symm (aaG (hM) nn1))).trans (f2 _ _ G1)
  have ge2:=(aaR (H:=E3) (a:=M) (Ne.symm (aaG (r1 _ _ (hM)) nn2))).trans (f3 _ _ G2)
  have ge3:=(aaR (H:=E3) (a:=M) (Ne.symm (aaG (r2 _ _ (r1 _ _ (hM))) nn3))).trans (G3)
  refine⟨M,_,_,rfl,rfl,hM',(by rw[dZ,hx];decide),?_⟩
  refine⟨M,_,rfl,hN,ab7 hN (sB.trans f1),aaA,(by rw[bC,hx];rfl),fun v hv=>?_⟩
  rw[apT]
  rcases bV.mp hv with hv | hv
  ·exact (hall v hv).keep (at3 f1)
  ·rw[bE.mp hv]
   exact⟨t1,_,_,_,rfl,ge3,rr2 b2,.inr ⟨l1,_,_,rfl,rfl,ge2,.cons ⟨u1,_,_,_,rfl,ge1,rfl,rfl⟩ .nil,(fun k hk=>by rw[bE.mp hk];exact (agE b2).2.2.2)⟩⟩
 rintro σ' HB ⟨M,xs,rfl,hN,sB,hM,hx,hall⟩
 refine⟨au2 st o la H 4,?_,?_⟩
 ·refine⟨_,rfl,.inl ⟨rfl,_,SqL.of hM⟩,_,rfl,o.toNat,so.2.1,so.1,_,_,rfl,rfl,(by rw[dZ];have:=so.2.2.1;have:=sl.2.2.1;simp only[bC,bX,List.length_nil];omega),_,rfl,la.toNat,sl.2.1,sl.1,_,_,rfl,rfl,(by rw[dZ];have:=so.2.2.1;have:=sl.2.2.1;simp only[bC,bX,List.length_nil];omega),_,_,rfl,rfl,(by rw[dZ];have:=so.2.2.1;have:=sl.2.2.1;simp only[bC,bX,List.length_nil];omega),_,rfl,(zL 1),fun a1 nn1=>?_⟩
  have r1:=aaB nn1 (.lst [.int o])
  have G1:upd HB a1 (.lst [.int o]) a1=some (.lst [.int o]):=aaA
  generalize upd HB a1 (.lst [.int o])=E1 at r1 G1 ⊢
  refine⟨(zL 3),fun u1 nn2=>?_⟩
  have r2:=aaB nn2 (.tup [.str (Tx [110,117,109]),.ref a1,.int 0])
  have G2:upd E1 u1 (.tup [.str (Tx [110,117,109]),.ref a1,.int 0]) u1=some (.tup [.str (Tx [110,117,109]),.ref a1,.int 0]):=aaA
  generalize upd E1 u1 (.tup [.str (Tx [110,117,109]),.ref a1,.int 0])=E2 at r2 G2 ⊢
  refine⟨_,rfl,(zL 3),fun u2 nn3=>?_⟩
  have r3:=aaB nn3 (.tup [.str (Tx [110,101,97,114]),.int la,.int 0])
  have G3:upd E2 u2 (.tup [.str (Tx [110,101,97,114]),.int la,.int 0]) u2=some (.tup [.str (Tx [110,101,97,114]),.int la,.int 0]):=aaA
  generalize upd E2 u2 (.tup [.str (Tx [110,101,97,114]),.int la,.int 0])=E3 at r3 G3 ⊢
  refine⟨(zL 2),fun l1 nn4=>?_⟩
  have r4:=aaB nn4 (.lst [.ref u1,.ref u2])
  have G4:upd E3 l1 (.lst [.ref u1,.ref u2]) l1=some (.lst [.ref u1,.ref u2]):=aaA
  generalize upd E3 l1 (.lst [.ref u1,.ref u2])=E4 at r4 G4 ⊢
  refine⟨(zL 2),fun t1 nn5=>?_⟩
  have r5:=aaB nn5 (.tup [.str (Tx (num o.toNat++[44]++num la.toNat++[87])),.ref l1])
  have G5:upd E4 t1 (.tup [.str (Tx (num o.toNat++[44]++num la.toNat++[87])),.ref l1]) t1=some (.tup [.str (Tx (num o.toNat++[44]++num la.toNat++[87])),.ref l1]):=aaA
  generalize upd E4 t1 (.tup [.str (Tx (num o.toNat++[44]++num la.toNat++[87])),.ref l1])=E5 at r5 G5 ⊢
  have f5:=r5
  have f4:=r4.trans f5
  have f3:=r3.trans f4
  have f2:=r2.trans f3
  have f1:=r1.trans f2
  have hM':=f1 _ _ hM
  have ge1:=(aaR (H:=E5) (a:=M) (Ne.symm (aaG (hM) nn1))).trans (f2 _ _ G1)
  have ge2:=(aaR (H:=E5) (a:=M) (Ne.symm (aaG (r1 _ _ (hM)) nn2))).trans (f3 _ _ G2)
  have ge3:=(aaR (H:=E5) (a:=M) (Ne.symm (aaG (r2 _ _ (r1 _ _ (hM))) nn3))).trans (f4 _ _ G3)
  have ge4:=(aaR (H:=E5) (a:=M) (Ne.symm (aaG (r3 _ _ (r2 _ _ (r1 _ _ (hM)))) nn4))).trans (f5 _ _ G4)
  have ge5:=(aaR (H:=E5) (a:=M) (Ne.symm (aaG (r4 _ _ (r3 _ _ (r2 _ _ (r1 _ _ (hM))))) nn5))).trans (G5)
  refine⟨M,_,_,rfl,rfl,hM',(by rw[dZ,hx];decide),?_⟩
  refine⟨M,_,rfl,hN,ab7 hN (sB.trans f1),aaA,(by rw[bC,hx];rfl),fun v hv=>?_⟩
  rw[apT]
  rcases bV.mp hv with hv | hv
  ·exact (hall v hv).keep (at3 f1)
  ·rw[bE.mp hv]
   exact⟨t1,_,_,_,rfl,ge5,rr3 b2 b3,.inr ⟨l1,_,_,rfl,rfl,ge4,.cons ⟨u1,_,_,_,rfl,ge2,rfl,a1,[o],rfl,ge1,rfl,in1⟩ (.cons ⟨u2,_,_,_,rfl,ge3,rfl,rfl⟩ .nil),(fun k hk=>by
    rcases aY.mp hk with rfl | hk
    ·exact (akA b2).2.2.2
    ·rw[bE.mp hk];exact (agE b3).2.2.2)⟩⟩
 rintro σ' HB ⟨M,xs,rfl,hN,sB,hM,hx,hall⟩
 refine⟨au2 st o la H 5,?_,?_⟩
 ·refine⟨_,rfl,.inl ⟨rfl,_,SqL.of hM⟩,(zL 2),fun t1 nn1=>?_⟩
  have r1:=aaB nn1 (.tup [.str (Tx [42]),.non])
  have G1:upd HB t1 (.tup [.str (Tx [42]),.non]) t1=some (.tup [.str (Tx [42]),.non]):=aaA
  generalize upd HB t1 (.tup [.str (Tx [42]),.non])=E1 at r1 G1 ⊢
  have f1:=r1
  have hM':=f1 _ _ hM
  have ge1:=(aaR (H:=E1) (a:=M) (Ne.symm (aaG (hM) nn1))).trans (G1)
  refine⟨M,_,_,rfl,rfl,hM',(by rw[dZ,hx];decide),?_⟩
  refine⟨M,_,rfl,hN,ab7 hN (sB.trans f1),aaA,(by rw[bC,hx];rfl),fun v hv=>?_⟩
  rw[apT]
  rcases bV.mp hv with hv | hv
  ·exact (hall v hv).keep (at3 f1)
  ·rw[bE.mp hv]
   exact⟨t1,_,_,none,rfl,ge1,avI false,.inl ⟨rfl,rfl⟩⟩
 rintro σ' HB ⟨M,xs,rfl,hN,sB,hM,hx,hall⟩
 obtain⟨v,hv,hm⟩:=aD5 (xs:=xs) (i:=st) b1.1 (by rw[hx];exact b1.2)
 obtain⟨t,tw,v',ko,rfl,ht,hd,hmv⟩:=(hall v hm).keep aBO
 exact⟨_,rfl,_,rfl,M,_,_,_,rfl,rfl,SqL.of hM,hv,q t tw v' ko _ sB ht hd hmv⟩
theorem al9:Df P w K mg base "_law_never" 5 ["_law_spec_here"] (al2 K):=by
 refine ZZ.c0.dfs sc__law_never (fun vs H Q E h=>?_) (fun f cdv A outer s H vs Q E hr h=>?_)
 ·obtain⟨_,_,_,_,_,_,_,_,_,_,rfl,_⟩:=h
  rfl
 obtain⟨s0,x0,x1,x2,v3,v5,Mn,kd,kw,ns,rfl,hs,hMn,hns,hlen,h3,h5,q⟩:=h
 refine⟨_,(ssC (acZ (iL (eCB cSrt ZZ.ej PyProof.Rows.boot_sorted (aC (eCT cSet ZZ.ev PyProof.Rows.boot_set (aC (eIx xT (v_ 0) eI) aN)) aN))) (gN 1 sc__law_never.nd) (ssC (aaJ 2 (ab0 (aC (eIx xL (ab0 (aAA [31,28,31,30,31,30,31,31,30,31,30,31])) (eOp abA (v_ 1) eI)) aN)) sc__law_never.nd)
   (ssK (sIf (tCm oEq (v_ 1) eI) (ss1 (aaJ 2 (ab0 (aC eI (aC eI aN))) sc__law_never.nd)) ssN)
   (ss1 (acZ (iL (v_ 2)) (gN 3 sc__law_never.nd) (ss1 (acZ (iR1 ZZ.ac (aC eI aN)) (gN 4 sc__law_never.nd) (ss1 (acZ (iR2 ZZ.ac (aC eI (aC (eOp aa2 (v_ 3) eI) aN))) (gN 5 sc__law_never.nd) (ss1 (sIf (tVa (eD (ahY ZZ) hr (aC (v_ 0) (aC (v_ 5) (aC (v_ 3) (aC (v_ 4) aN)))))) (ss1 (aaH eB)) ssN)) PassesOwn.never)) PassesOwn.never)) PassesOwn.never)))) PassesOwn.never)
   (ss1 (aaH eB))),?_⟩
 refine⟨_,rfl,s0,_,_,_,rfl,rfl,SqT.of (hs),rfl,Mn,ns,rfl,SqL.of hMn,(by omega),fun S0 hS0=>⟨S0,ns,rfl,aaA,(fun x hx=>by have:=hns x hx;omega),fun DD zs hD hpw hmem=>?_⟩⟩
 refine⟨DD,rfl,⟨_,SqL.of aaA⟩,abX (K:=K) (a:=DD) (xs:=zs.map V.int) (fun i σ H2=>∃v1 v2 v3' v4 v5':Option V,σ=[some (.ref s0),v1,v2,v3',v4,v5']/\Same H H2/\H2 DD=some (.lst (zs.map V.int))/\Nvl (zs.take i) kd kw) ⟨_,_,_,_,_,rfl,(aaB hS0 _).trans (aaB hD _),aaA,fun m hm=>nomatch hm⟩ (fun i σ H2 _ ⟨_,_,_,_,_,_,_,z,_⟩=>SqL.of z) ?turn ?done⟩
 case done=>
  rintro σ H2 ⟨v1,v2,v3',v4,v5',rfl,s2,_,hN⟩
  rw[aU,cF] at hN
  exact q true H2 s2 ⟨fun _ m hm=>hN m ((hmem m).mpr hm),fun _=>rfl⟩
 case turn=>
  rintro i x σ H2 hx ⟨v1,v2,v3',v4,v5',rfl,s2,hz,hN⟩
  rw[bA] at hx
  obtain⟨m,em,rfl⟩:∃m,zs[i]? =some m/\V.int m=x:=by
   cases ez:zs[i]? with
   |none=>rw[ez] at hx;cases hx
   |some m=>rw[ez] at hx;exact⟨m,rfl,a8 hx⟩
  have hmn:m∈ns:=(hmem m).mp (bI em)
  have hm12:=hns m hmn
  refine⟨(zL 12),fun L1 h1=>⟨_,rfl,_,_,rfl,rfl,L1,_,_,_,rfl,rfl,SqL.of aaA,akV hm12.1 hm12.2,(zL 1),fun L2' h2=>?_⟩⟩
  have s3:=(aaB h1 (.lst (lasts.map V.int))).trans (aaB h2 (.lst [V.int (lasts.getD (m-1).toNat 0)]))
  refine⟨(fun σ' H'=>∃E:Addr,σ'=[some (.ref s0),some (.int m),some (.ref E),v3',v4,v5']/\Same H2 H'/\H' E=some (.lst ((ends m).map V.int))),?_,?_⟩
  ·refine⟨_,rfl,rfl,_,rfl,ifI (fun c=>?_) (fun c=>?_)⟩
   ·exact⟨(zL 2),fun L3 h3'=>⟨L3,rfl,s3.trans (aaB h3' _),by unfold ends;rw[if_pos c];exact aaA⟩⟩
   ·exact⟨L2',rfl,s3,by unfold ends;rw[if_neg c];exact aaA⟩
  rintro σ' H3 ⟨E,rfl,s23,hE⟩
  have s03:=s2.trans s23
  refine⟨_,rfl,E,rfl,⟨_,SqL.of hE⟩,abX (K:=K) (a:=E) (xs:=(ends m).map V.int) (fun j σ Hc=>∃v3' v4 v5':Option V,σ=[some (.ref s0),some (.int m),some (.ref E),v3',v4,v5']/\Same H3 Hc/\∀l∈(ends m).take j,∀f:Nat,f<7->∀d:Nat,d<l.toNat->tb (aaY kd kw l f) (d+1)=false) ⟨_,_,_,rfl,Same.refl _,fun l hl=>nomatch hl⟩ (fun j σ Hc _ ⟨_,_,_,_,z,_⟩=>SqL.of (z _ _ hE)) ?tn ?dn⟩
  case dn=>
   rintro σ Hc ⟨w3,w4,w5,rfl,sc,hl⟩
   rw[aU,cF] at hl
   refine⟨_,_,_,_,_,rfl,s03.trans sc,sc _ _ (s23 _ _ hz),fun m' hm'=>?_⟩
   rw[b7,em] at hm'
   rcases bV.mp hm' with z | z
   ·exact hN m' z
   ·obtain rfl:m'=m:=by simpa using z
    exact hl
  case tn=>
   rintro j x σ Hc hx ⟨w3,w4,w5,rfl,sc,hlj⟩
   rw[bA] at hx
   obtain⟨l,el,rfl⟩:∃l,(ends m)[j]? =some l/\V.int l=x:=by
    cases ez:(ends m)[j]? with
    |none=>rw[ez] at hx;cases hx
    |some l=>rw[ez] at hx;exact⟨l,rfl,a8 hx⟩
   have hle:=bI el
   have l31:=aA1 hm12.1 hm12.2 hle
   refine⟨_,rfl,by decide,by decide,abS (fun g σ Hd=>∃v4 v5':Option V,σ=[some (.ref s0),some (.int m),some (.ref E),some (.int l),v4,v5']/\Same Hc Hd/\∀f:Nat,f<g->∀d:Nat,d<l.toNat->tb (aaY kd kw l f) (d+1)=false) ⟨_,_,rfl,Same.refl _,fun f hf=>absurd hf (cU _)⟩ ?t3 ?d3⟩
   case d3=>
    rintro σ Hd ⟨u4,u5,rfl,sd,hf⟩
    refine⟨_,_,_,rfl,sc.trans sd,fun l' hl'=>?_⟩
    rw[b7,el] at hl'
    rcases bV.mp hl' with z | z
    ·exact hlj l' z
    ·obtain rfl:l'=l:=by simpa using z
     exact hf
   case t3=>
    rintro g σ Hd hg ⟨u4,u5,rfl,sd,hf⟩
    have hg7:g<7:=hg
    have lf:Lf l (0+(g:Int)):=⟨l31,by omega,by omega⟩
    refine⟨_,rfl,_,_,rfl,rfl,_,_,rfl,⟨by decide,by decide,by omega,by omega⟩,abS (fun dd σ He=>∃v5':Option V,σ=[some (.ref s0),some (.int m),some (.ref E),some (.int l),some (.int (0+(g:Int))),v5']/\Same Hd He/\∀d:Nat,d<dd->tb (aaY kd kw l g) (d+1)=false) ⟨_,rfl,Same.refl _,fun d hd=>absurd hd (cU _)⟩ ?t4 ?d4⟩
    case d4=>
     rintro σ He ⟨w',rfl,se,hd⟩
     refine⟨_,_,rfl,sd.trans se,fun f hf' d hd'=>?_⟩
     rcases cV f g with z | z
     ·exact hf f z d hd'
     ·rw[show f=g by omega]
      exact hd d (by omega)
    case t4=>
     rintro dd σ He hdd ⟨w',rfl,se,hd⟩
     have hdl:dd<(l+1-1).toNat:=hdd
     have s0e:=s03.trans (sc.trans (sd.trans se))
     have ed:(1+(dd:Int)).toNat=dd+1:=by omega
     refine⟨_,rfl,_,rfl,_,rfl,_,rfl,s0,x0,x1,x2,v3,.ref Mn,v5,kd,kw,1+(dd:Int),l,0+(g:Int),rfl,s0e _ _ hs,h3.keep s0e,h5.keep s0e,lf,⟨by omega,by omega⟩,fun Hf sf=>⟨_,rfl,?_⟩⟩
     rw[ed,Int.zero_add]
     cases c:tb (aaY kd kw l (g:Int)) (dd+1) with
     |true=>
      refine abF (q false Hf (s0e.trans sf) ⟨(fun z=>by cases z),fun z=>?_⟩)
      have y:=z m hmn l hle g hg7 dd (by omega)
      rw[c] at y
      cases y
     |false=>
      refine aa1 ⟨_,rfl,se.trans sf,fun d hd'=>?_⟩
      rcases cV d dd with y | y
      ·exact hd d y
      ·rw[show d=dd by omega]
       exact c
theorem ao5:Df P w K mg base "_law_spec" 3 ["_law_cell","_law_mixed"] (anR K):=by
 refine ZZ.dg.dfs sc__law_spec (fun vs H Q E h=>?_) (fun f cdv A outer s H vs Q E hr h=>?_)
 ·obtain⟨_,_,rfl,_⟩:=h
  rfl
 obtain⟨c,bm,rfl,q⟩:=h
 refine⟨_,(ssC (aaJ 2 (eD (ajY ZZ) hr (aC (v_ 0) (aC (ab0 (aAA [5,4,4,3,12,12,12,2,4,8,60])) (aC (v_ 1) aN)))) sc__law_spec.nd)
   (ssC (aaJ 3 (ab0 (aAA [2,4,6,9,11,2,2,4,6,11,9,2])) sc__law_spec.nd)
   (ssC (aaJ 4 (ab0 aN) sc__law_spec.nd)
   (ssC (acZ (iR1 ZZ.ac (aC (eOp aa2 eI (eIx xL (v_ 2) eI)) aN)) (gN 5 sc__law_spec.nd) (ssC (aaJ 6 (eOp aa2 eI (eIx xL (v_ 2) (eOp aa2 eI (v_ 5)))) sc__law_spec.nd)
   (ssK (sIf (tCm oEq (eIx xL (v_ 2) eI) eI) (ss1 (aaJ 6 (eIx xL (v_ 3) (eOp abA (v_ 6) eI)) sc__law_spec.nd)) ssN)
   (ss1 (apC (arB (v_ 4) (v_ 6)))))) PassesOwn.never)
   (ssK (aaJ 7 (eD (apD ZZ) hr (aC (eIx xL (v_ 2) eI) (aC (eOp aa2 eI (eIx xL (v_ 2) eI)) (aC (eOp aa2 eI (eIx xL (v_ 2) eI)) aN)))) sc__law_spec.nd)
   (ssC (aaJ 8 (abN (aC (eSx [42]) (aC eN aN))) sc__law_spec.nd)
   (ssK (sIf (tCm oEq (eIx xL (v_ 2) eI) eI) (ss1 (aaJ 8 (abN (aC (eOp am2 (eCT ah7 ZZ.ag PyProof.Rows.boot_str (aC (eIx xL (v_ 2) eI) aN)) (eSx [35,53])) (aC (ab0 (aC (abN (aC (eSx [110,116,104]) (aC (eOp ab3 (eIx xL (v_ 2) eI) eI) (aC eI aN)))) aN)) aN))) sc__law_spec.nd)) ssN)
   (ssK (aaJ 9 (aDV (eSx [44]) (alM [] [] (iL (v_ 4)) (fun _ _ _ _ _ _=>fsN) (fun _ _ _ _ _ _=>(eCT ah7 ZZ.ag PyProof.Rows.boot_str (aC (v_ 0) aN))))) sc__law_spec.nd)
   (ssK (aaJ 10 (aDV (eSx [32]) (ab0 (aC (eCT ah7 ZZ.ag PyProof.Rows.boot_str (aC (eIx xL (v_ 2) eI) aN)) (aC (eSx [42]) (aC (eIx xT (v_ 7) eI) (aC (v_ 9) (aC (eIx xT (v_ 8) eI) aN))))))) sc__law_spec.nd)
   (ss1 (aaH (abN (aC (v_ 10) (aC (ab0 (aC (eIx xL (v_ 2) eI) aN)) (aC (eCT cLR ZZ.bl PyProof.Rows.boot_list (aC (eCT cRg1 ZZ.ac boot_range (aC eI aN)) aN)) (aC (eIx xT (v_ 7) eI) (aC (v_ 4) (aC (eIx xT (v_ 8) eI) aN)))))))))))))))))),?_⟩
 have e11:∀z∈([5,4,4,3,12,12,12,2,4,8,60]:List Int),0<z/\z<1073741824:=by decide
 refine⟨_,rfl,(zL 11),fun ls hls=>⟨_,rfl,c,ls,bm,[5,4,4,3,12,12,12,2,4,8,60],rfl,SqL.of aaA,e11,(by decide),fun ds p H1 s0 hp hd=>?_⟩⟩
 have s1:=(aaB hls (.lst (([5,4,4,3,12,12,12,2,4,8,60]:List Int).map V.int))).trans s0
 obtain⟨d0,e0,k0⟩:=abY (i:=0) hd rfl
 obtain⟨d1,e1,k1⟩:=abY (i:=1) hd rfl
 obtain⟨d2,e2,k2⟩:=abY (i:=2) hd rfl
 obtain⟨d3,e3,k3⟩:=abY (i:=3) hd rfl
 obtain⟨d7,e7,k7⟩:=abY (i:=7) hd rfl
 obtain⟨d8,e8,k8⟩:=abY (i:=8) hd rfl
 obtain⟨d9,e9,k9⟩:=abY (i:=9) hd rfl
 obtain⟨dm,e10,k10⟩:=abY (i:=10) hd rfl
 refine⟨(zL 12),fun S hS=>⟨(zL 0),fun M hM=>?_⟩⟩
 have sS:=aaB hS (.lst (([2,4,6,9,11,2,2,4,6,11,9,2]:List Int).map V.int))
 have gS:upd H1 S (.lst (([2,4,6,9,11,2,2,4,6,11,9,2]:List Int).map V.int)) S=some (.lst (([2,4,6,9,11,2,2,4,6,11,9,2]:List Int).map V.int)):=aaA
 have hp2:=sS _ _ hp
 have s2:=s1.trans sS
 have sM:=aaB hM (.lst [])
 refine⟨_,rfl,p,_,_,_,rfl,rfl,SqL.of (sM _ _ hp2),acQ e3,_,_,rfl,rfl,_,rfl,?lo,?hi,abS (SpI c bm p S M (upd H1 S (.lst (([2,4,6,9,11,2,2,4,6,11,9,2]:List Int).map V.int)))) ⟨_,_,[],rfl,sM,aaA,(fun n hn=>nomatch hn),rfl⟩ ?turn ?done⟩
 case lo=>omega
 case hi=>omega
 case turn=>
  rintro i σ H2 hi' ⟨v5,v6,ns,rfl,sH,hMn,hns,hln⟩
  have hi3:i<3:=by omega
  obtain⟨dk,ek,kk⟩:∃dk:Int,ds[4+i]? =some dk/\0<=dk/\dk<12:=by
   match i,hi3 with
   |0,_=>exact abY (i:=4) hd rfl
   |1,_=>exact abY (i:=5) hd rfl
   |2,_=>exact abY (i:=6) hd rfl
  refine⟨_,rfl,_,rfl,_,_,rfl,rfl,p,_,_,_,rfl,rfl,SqL.of (sH _ _ hp2),(by rw[show (4:Int)+(0+(i:Int))=((4+i:Nat):Int) by omega];exact acQ ek),_,_,rfl,rfl,?_⟩
  refine⟨(fun σ' H'=>∃m:Int,σ'=[some (.int c),some (.bl bm),some (.ref p),some (.ref S),some (.ref M),some (.int (0+(i:Int))),some (.int m),none,none,none,none]/\H'=H2/\1<=m/\m<=12),?_,?_⟩
  ·obtain⟨z,hz,bz⟩:=az4 (zs:=[2,4,6,9,11,2,2,4,6,11,9,2]) (i:=1+dk-1) (lo:=1) (hi:=12) (by omega) (by show 1+dk-1<12;omega) (by decide)
   refine⟨_,rfl,p,_,_,_,rfl,rfl,SqL.of (sH _ _ hp2),acQ e7,rfl,_,rfl,ifI (fun _=>?_) (fun _=>⟨1+dk,rfl,rfl,by omega,by omega⟩)⟩
   exact⟨_,rfl,_,rfl,_,_,rfl,rfl,S,_,_,_,rfl,rfl,SqL.of (sH _ _ gS),hz,z,rfl,rfl,bz.1,bz.2⟩
  rintro σ' H' ⟨m,rfl,rfl,hm⟩
  refine⟨_,rfl,.inl ⟨rfl,_,SqL.of hMn⟩,_,rfl,M,_,_,rfl,rfl,hMn,(by rw[aU,dZ];omega),?_⟩
  exact⟨_,_,ns++[m],rfl,ab7 hM sH,(by rw[bH];exact aaA),(fun n hn=>(bV.mp hn).elim (hns n) fun z=>by rw[bE.mp z];exact hm),(by rw[bC,hln];rfl)⟩
 case done=>
  rintro σ H2 ⟨w5,w6,ns,rfl,sH,hMn,hns,hln⟩
  have hp3:=sH _ _ hp2
  have s3:=s2.trans sH
  have hl3:1<=ns.length/\ns.length<=3:=by omega
  have hne:ns≠[]:=fun z=>by rw[z] at hl3;exact absurd hl3.1 (by decide)
  clear hln
  refine⟨(fun σ' H'=>∃(t2:Addr) (tw:List Nat) (v3:V) (kd:Option (List Mk)),σ'=[some (.int c),some (.bl bm),some (.ref p),some (.ref S),some (.ref M),w5,w6,some (.ref t2),none,none,none]/\Same H2 H'/\H' t2=some (.tup [.str (Tx tw),v3])/\DT false tw kd/\MV H' v3 kd),?_,?_⟩
  ·exact⟨_,rfl,p,_,_,_,rfl,rfl,SqL.of (hp3),acQ e0,_,rfl,p,_,_,_,rfl,rfl,SqL.of (hp3),acQ e1,_,_,rfl,rfl,_,rfl,p,_,_,_,rfl,rfl,SqL.of (hp3),acQ e2,_,_,rfl,rfl,d0,28+d1,28+d2,rfl,⟨k0,by omega,by omega⟩,fun t tw v ko H' s' ht hdt hm=>⟨t,tw,v,ko,rfl,s',ht,hdt,hm⟩⟩
  rintro σ' H4 ⟨t2,w2,v3,kd,rfl,s4,ht2,d2',m3v⟩
  refine⟨(zL 2),fun t4 n4=>?_⟩
  have a4:=aaB n4 (.tup [.str (Tx [42]),.non])
  have g4:upd H4 t4 (.tup [.str (Tx [42]),.non]) t4=some (.tup [.str (Tx [42]),.non]):=aaA
  generalize upd H4 t4 (.tup [.str (Tx [42]),.non])=H5 at a4 g4 ⊢
  have s25:=s4.trans a4
  refine⟨(fun σ' H'=>∃(tk:Addr) (w4:List Nat) (v5:V) (kw:Option (List Mk)),σ'=[some (.int c),some (.bl bm),some (.ref p),some (.ref S),some (.ref M),w5,w6,some (.ref t2),some (.ref tk),none,none]/\Same H5 H'/\H' tk=some (.tup [.str (Tx w4),v5])/\DT true w4 kw/\MV H' v5 kw),?_,?_⟩
  ·refine⟨_,rfl,p,_,_,_,rfl,rfl,SqL.of (s25 _ _ hp3),acQ e8,rfl,_,rfl,ifI (fun _=>?_) (fun _=>⟨t4,[42],.non,none,rfl,Same.refl _,g4,avI true,.inl ⟨rfl,rfl⟩⟩)⟩
   have sm:=ag3 (z:=d9) (by omega) (by omega)
   refine⟨_,rfl,p,_,_,_,rfl,rfl,SqL.of (s25 _ _ hp3),acQ e9,d9.toNat,sm.2.1,sm.1,_,_,rfl,rfl,(by rw[dZ];show _+2<=_;have:=sm.2.2.1;omega),_,rfl,p,_,_,_,rfl,rfl,SqL.of (s25 _ _ hp3),acQ e9,_,_,rfl,rfl,(by show (0:Int)<7;decide),(zL 3),fun u3 n9=>⟨(zL 1),fun l4 n10=>⟨(zL 2),fun t5 n11=>?_⟩⟩⟩
   have b10:=aaB n10 (.lst [V.ref u3])
   have b11:=aaB n11 (.tup [.str (Tx (num d9.toNat++[35,53])),.ref l4])
   exact⟨t5,_,_,some [.nth (d9%7) 5],rfl,(aaB n9 _).trans (b10.trans b11),aaA,rr5 k9.1 k9.2,.inr ⟨l4,_,_,rfl,rfl,b11 _ _ aaA,.cons ⟨u3,_,_,_,rfl,b11 _ _ (b10 _ _ aaA),rfl,rfl,rfl⟩ .nil,fun k hk=>by rw[bE.mp hk];exact⟨⟨by omega,by omega⟩,by decide,by decide⟩⟩⟩
  rintro σ' H6 ⟨tk,w4,v5,kw,rfl,s6,htk,d4',m5v⟩
  have s26:=s25.trans s6
  have hM6:=s26 _ _ hMn
  have ht26:=(a4.trans s6) _ _ ht2
  have m3v6:=m3v.keep (a4.trans s6)
  refine⟨(fun σ' H'=>σ'=[some (.int c),some (.bl bm),some (.ref p),some (.ref S),some (.ref M),w5,w6,some (.ref t2),some (.ref tk),some (.str (Tx (aaW 44 (ns.map fun n:Int=>num n.toNat)))),none]/\Same H6 H'),?_,?_⟩
  ·refine⟨rfl,_,rfl,M,rfl,⟨_,SqL.of hM6⟩,amR (xs:=ns.map V.int) (fun i z=>z=((ns.take i).map fun n:Int=>V.str (Tx (num n.toNat)))) (by rw[aU,dZ];omega) rfl (SqL.of hM6) ?_ ?_⟩
   ·intro i v z D H4 E' F' hv hR hD s4 hz hE hF
    subst hR
    rw[bA] at hv
    obtain⟨n,en,rfl⟩:∃n,ns[i]? =some n/\V.int n=v:=by
     cases ez:ns[i]? with
     |none=>rw[ez] at hv;cases hv
     |some n=>rw[ez] at hv;exact⟨n,rfl,a8 hv⟩
    have b:=hns n (bI en)
    have sm:=ag3 (z:=n) (by omega) (by omega)
    exact⟨_,rfl,n.toNat,sm.2.1,sm.1,hE _ _ (Same.refl _) (by rw[b7,en,bH];rfl)⟩
   ·intro D H4 z hR hD s4 hz
    subst hR
    rw[aU,cF] at hz
    have hlen:=agV (ns.map fun n:Int=>num n.toNat) (fun x hx=>((ac7 (amS hns)).1 x hx).2.2)
    rw[aU] at hlen
    refine⟨44,D,ns.map fun n:Int=>num n.toNat,rfl,rfl,SqL.of (by rw[hz,cQ];rfl),(by omega),?_⟩
    exact⟨rfl,s4⟩
  rintro σ' H7 ⟨rfl,s7⟩
  have f3:=awI hns hne (by omega)
  have f0:=aAO k10.1 k10.2
  have smm:=ag3 (z:=dm) (by omega) (by omega)
  have hp7:=s7 _ _ (s26 _ _ hp3)
  refine⟨(fun σ' H'=>σ'=[some (.int c),some (.bl bm),some (.ref p),some (.ref S),some (.ref M),w5,w6,some (.ref t2),some (.ref tk),some (.str (Tx (aaW 44 (ns.map fun n:Int=>num n.toNat)))),some (.str (Tx (aaW 32 [num dm.toNat,[42],w2,aaW 44 (ns.map fun n:Int=>num n.toNat),w4])))]/\Same H7 H'),?_,?_⟩
  ·refine⟨rfl,_,rfl,p,_,_,_,rfl,rfl,SqL.of (hp7),acQ e10,dm.toNat,smm.2.1,smm.1,_,rfl,t2,_,_,_,rfl,rfl,SqT.of (s7 _ _ ht26),rfl,_,rfl,_,rfl,tk,_,_,_,rfl,rfl,SqT.of (s7 _ _ htk),rfl,(zL 5),fun L hL=>?_⟩
   refine⟨32,L,[num dm.toNat,[42],w2,aaW 44 (ns.map fun n:Int=>num n.toNat),w4],rfl,rfl,SqL.of aaA,?len,rfl,aaB hL _⟩
   have:=f0.len
   have:=f3.len
   have:=d2'.2.1.len
   have:=d4'.2.1.len
   show (num dm.toNat++32::([42]++32::(w2++32::(aaW 44 (ns.map fun n:Int=>num n.toNat)++32::w4)))).length<=1000000
   simp only[bC,bX,List.length_nil]
   omega
  rintro σ' H8 ⟨rfl,s8⟩
  have n2:=aoF (a:=0) (b:=23) (s:=1) (by decide) (by decide) (by decide)
  have s68:=s7.trans s8
  refine⟨_,rfl,_,rfl,p,_,_,_,rfl,rfl,SqL.of (s8 _ _ hp7),acQ e10,(zL 1),fun l1 g1=>?_⟩
  have a1:=aaB g1 (.lst [V.int dm])
  refine⟨_,rfl,fun r hr=>⟨r,0,23+1,1,(Builtin.Range.rangeSize 0 (23+1) 1).toNat,rfl,aaA,arS (by decide) (by decide) (by decide) (by decide) (by decide) (by decide),n2.2,bO n2.1 (by decide),fun u hu=>?_⟩⟩
  refine⟨_,rfl,t2,_,_,_,rfl,rfl,SqT.of ((aaB hu _) _ _ ((aaB hr _) _ _ (a1 _ _ (s68 _ _ ht26)))),rfl,_,rfl,_,rfl,tk,_,_,_,rfl,rfl,SqT.of ((aaB hu _) _ _ ((aaB hr _) _ _ (a1 _ _ (s68 _ _ htk)))),rfl,(zL 6),fun t ht=>?_⟩
  exact q t _ _ _ _ dm _ _ _ _ M kd kw ns _ (s3.trans (s26.trans (s68.trans (a1.trans ((aaB hr _).trans ((aaB hu _).trans (aaB ht _))))))) aaA ((aaB ht _) _ _ ((aaB hu _) _ _ ((aaB hr _) _ _ (a1 _ _ (s68 _ _ hM6))))) hns (by omega) f0 f3 d2' d4' k10 (m3v6.keep (s68.trans (a1.trans ((aaB hr _).trans ((aaB hu _).trans (aaB ht _)))))) (m5v.keep (s68.trans (a1.trans ((aaB hr _).trans ((aaB hu _).trans (aaB ht _))))))
theorem al5:Df P w K mg base "_law_right" 12 ["_law_row","_law_due","_law_moment"] (al7 K aB aE aF aH aD aA aG aI aJ aK aL aM):=by
 refine ZZ.c1.dfs sc__law_right (fun vs H Q E h=>?_) (fun f cdv A outer s H vs Q E hr h=>?_)
 ·obtain⟨_,_,_,_,_,_,_,_,rfl,_⟩:=h
  rfl
 obtain⟨p,b,mo,m0,m1,m3,kd,kw,rfl,hR,hT,hb,hbt,hbf,q⟩:=h
 refine⟨_,(ssK (aaJ 3 (eD (ayB ZZ) hr (aC (v_ 0) aN)) sc__law_right.nd)
   (ssC (sIf (tW (wOr (tNo (tVa (eCB cIs ZZ.ad PyProof.Rows.boot_isinstance (aC (v_ 3) (aC (eTy ZZ.cr PyProof.Rows.boot_bool) aN))))) (ak2 (tCm oNe (v_ 3) (v_ 1))))) (ss1 (aaH eB)) ssN)
   (ssC (acZ (iL (ab0 (aC (eD (an1 ZZ) hr (aC (v_ 0) (aC (v_ 2) aN))) (aC (eD (atG ZZ) hr (aC (v_ 0) (aC (v_ 2) aN))) aN)))) (gN 4 sc__law_right.nd) (ssC (sIf (tW (wOr (tNo (tVa (eCB cIs ZZ.ad PyProof.Rows.boot_isinstance (aC (v_ 4) (aC (eTy ZZ.ep PyProof.Rows.boot_tuple) aN))))) (wOr (tCm oNe (eCB amB ZZ.af PySem.boot_len (aC (v_ 4) aN)) eI) (ak2 (tNo (tVa (eCB cIs ZZ.ad PyProof.Rows.boot_isinstance (aC (eIx xT (v_ 4) eI) (aC (eTy ZZ.bl PyProof.Rows.boot_list) aN))))))))) (ss1 (aaH eB)) ssN)
   (ss1 (sIf (tW (wOr (tCm oNe (acT ac4 (eIx xT (v_ 4) eI) eN) (v_ 1)) (ak2 (tW (anN (tVa (v_ 1)) (ah8 (tCm (aQE hr.units) (eIx xT (v_ 4) eI) (ab0 aN)))))))) (ss1 (aaH eB)) ssN))) PassesOwn.never)
   (ss1 (aaH eB))))),?_⟩
 refine⟨(fun σ' H'=>σ'=[some (.ref p),some (.bl b),some (.int mo),some (.bl b),none]/\Same H H'),?_,?_⟩
 ·exact⟨_,rfl,p,m0,m1,m3,kd,kw,rfl,hR,fun H1 s1=>⟨by rw[hb];rfl,s1⟩⟩
 rintro σ' H1 ⟨rfl,s1⟩
 have hR1:=RowR.keepN (abP s1) hR
 have T1:=acG s1 hT
 refine⟨_,rfl,.bl b,.bool,.bool,rfl,(by decide),rfl,_,rfl,ifF rfl ⟨_,rfl,_,rfl,rfl,_,rfl,ifF (by rw[eC rfl];rfl) ?_⟩⟩
 refine⟨_,rfl,_,rfl,p,mo,m0,m1,m3,kd,kw,rfl,hR1,T1,fun t2 l2 us2 H2 v2 s2 T2 fr2 h2 hl2 c2=>⟨_,rfl,_,rfl,p,mo,m0,m1,m3,kd,kw,rfl,RowR.keepN s2 hR1,T2,fun t3 l3 us3 H3 v3 s3 T3 fr3 h3 hl3 c3=>⟨(zL 2),fun L hL=>?_⟩⟩⟩
 have sL:=aaB hL (.lst [V.ref t2,V.ref t3])
 have N13:=s2.trans s3
 have tx:=fun {bb:Addr} {o:HO} (n:∀ps,o≠ .tbl ps) (e:H2 bb=some o)=>sL _ _ (s3 bb o n e)
 have f2:decide (v2=.non)=b/\(b=true->us2=[]):=by
  rcases c2 with ⟨e,rfl,he,_⟩ | ⟨rfl,rfl,hno⟩
  ·cases hq:b with
   |true=>exact absurd he (hbt hq e)
   |false=>exact⟨rfl,fun z=>by cases z⟩
  ·cases hq:b with
   |true=>exact⟨rfl,fun _=>rfl⟩
   |false=>obtain⟨t,ht⟩:=hbf hq;exact absurd ht (hno t)
 have f3:decide (v3=.non)=b/\(b=true->us3=[]):=by
  rcases c3 with ⟨e,rfl,he,_⟩ | ⟨rfl,rfl,hno⟩
  ·cases hq:b with
   |true=>exact absurd he (hbt hq e)
   |false=>exact⟨rfl,fun z=>by cases z⟩
  ·cases hq:b with
   |true=>exact⟨rfl,fun _=>rfl⟩
   |false=>obtain⟨t,ht⟩:=hbf hq;exact absurd ht (hno t)
 have gL:upd H3 L (.lst [V.ref t2,V.ref t3]) L=some (.lst [V.ref t2,V.ref t3]):=aaA
 have two:∀x∈[V.ref t2,V.ref t3],∃(t l:Addr) (us:List V) (v:V),x=.ref t/\upd H3 L (.lst [V.ref t2,V.ref t3]) t=some (.tup [v,.ref l])/\upd H3 L (.lst [V.ref t2,V.ref t3]) l=some (.lst us)/\decide (v=.non)=b/\(b=true->us=[]):=fun x hx=>by
  simp only[aY,cA,or_false] at hx
  rcases hx with rfl | rfl
  ·exact⟨t2,l2,us2,v2,rfl,tx (fun _ z=>by cases z) h2,tx (fun _ z=>by cases z) hl2,f2⟩
  ·exact⟨t3,l3,us3,v3,rfl,sL _ _ h3,sL _ _ hl3,f3⟩
 have TL:=acG sL T3
 have sNL:=(abP s1).trans (N13.trans (abP sL))
 generalize upd H3 L (.lst [V.ref t2,V.ref t3])=HL at gL two TL sNL ⊢
 refine⟨L,rfl,⟨_,SqL.of gL⟩,abX (K:=K) (a:=L) (xs:=[.ref t2,.ref t3]) (fun i σ Hc=>∃v4:Option V,σ=[some (.ref p),some (.bl b),some (.int mo),some (.bl b),v4]/\Same HL Hc) ⟨_,rfl,Same.refl _⟩ (fun i σ Hc _ ⟨_,_,z⟩=>SqL.of (z _ _ gL)) ?tn ?dn⟩
 case dn=>
  rintro σ Hc ⟨v4,rfl,sc⟩
  exact q Hc (sNL.trans (abP sc)) (acG sc TL)
 case tn=>
  rintro i x σ Hc hx ⟨v4,rfl,sc⟩
  obtain⟨t,l,us,v,rfl,ht,hl,hv,hu⟩:=two x (bI hx)
  have ht:=sc _ _ ht
  have hl:=sc _ _ hl
  refine⟨_,rfl,.ref t,.tuple,.tuple,rfl,(by decide),.inr (.inl ⟨rfl,_,SqT.of ht⟩),_,rfl,ifF rfl ⟨_,rfl,t,_,rfl,.inr (SqT.of ht),rfl,_,rfl,aCS (fun c=>absurd rfl c) (fun _=>⟨_,rfl,t,_,_,_,rfl,rfl,SqT.of ht,rfl,.ref l,.list,.list,rfl,(by decide),.inl ⟨rfl,_,SqL.of hl⟩,_,rfl,ifF rfl ?_⟩)⟩⟩
  refine⟨_,rfl,t,_,_,_,rfl,rfl,SqT.of ht,rfl,rfl,_,rfl,rfl,_,rfl,?_⟩
  rw[hv]
  refine ifF (by rw[eC rfl];rfl) ⟨_,rfl,_,rfl,?_⟩
  cases hq:b with
  |false=>exact aa1 (aa1 ⟨_,rfl,sc⟩)
  |true=>
   obtain rfl:=hu hq
   refine abF ⟨_,rfl,t,_,_,_,rfl,rfl,SqT.of ht,rfl,(zL 0),fun l0 n0=>⟨l,l0,[],rfl,rfl,SqL.of (aaB n0 _ _ _ hl),SqL.of aaA,_,rfl,ifF rfl ⟨_,rfl,sc.trans (aaB n0 _)⟩⟩⟩
theorem aF1{fL:Addr}{fdL:FuncData}(F:Fun K "law" "law" amM fL fdL):FnOk P w K mg base CX0 13 fL fdL ["_law_script"] (apP K aK aL aM):=by
 refine F.oks sc_law (fun vs H Q E h=>?_) (fun cdv A outer s H vs Q E hr h=>?_)
 ·obtain⟨_,_,rfl,_⟩:=h
  rfl
 obtain⟨a,ns,rfl,hS,hlen,hT,q⟩:=h
 refine⟨_,(ssC (aaJ 1 (acT oEq (eOp ab3 (eD (adM ZZ) hr (aC (v_ 0) (aC eI aN))) eI) eI) sc_law.nd)
   (ssC (acZ (iR2 ZZ.ac (aC eI (aC (eCB aEC ZZ.bs PyProof.Rows.boot_max (aC eI (aC (eCB aFB ZZ.br PyProof.Rows.boot_min (aC eI (aC (eCB amB ZZ.af PySem.boot_len (aC (v_ 0) aN)) aN))) aN))) aN))) (gN 2 sc_law.nd) (ssC (aaJ 3 (eD (adM ZZ) hr (aC (v_ 0) (aC (v_ 2) aN))) sc_law.nd)
   (ssC (aaJ 4 (eD (ao5 ZZ) hr (aC (v_ 3) (aC (v_ 1) aN))) sc_law.nd)
   (ss1 (sIf (tNo (tVa (eD (al5 ZZ) hr (aC (eD (aqY ZZ) hr (aC (eIx xT (v_ 4) eI) aN)) (aC (eD (al9 ZZ) hr (aC (v_ 4) aN)) (aC (eOp abA (eOp ab3 (eOp ajI (v_ 3) eI) (eOp af3 eI (eOp ayF eI eI))) (eOp ayF eI eI)) aN)))))) (ss1 (aaH eB)) ssN)))) PassesOwn.never)
   (ss1 (aaH eB)))),?_⟩
 have hl63:(ns.map V.int).length=ns.length:=aU _
 refine⟨_,rfl,a,_,rfl,⟨ns,hS⟩,⟨by decide,by decide⟩,fun c0=>⟨_,_,rfl,rfl,(by show (0:Int)<2;decide),rfl,?_⟩⟩
 obtain⟨bm,ebm⟩:∃bm,bm=decide (V.int (c0%2)=V.int 1):=⟨_,rfl⟩
 show ac5 1 (V.bl (decide (V.int (c0%2)=V.int 1))) _ _ _
 rw[←ebm]
 refine⟨_,rfl,a,_,rfl,.inl hS,_,_,rfl,_,_,rfl,_,_,rfl,⟨by decide,by decide,?lo,?hi⟩,abS (fun i σ H2=>∃v2 v3 v4:Option V,σ=[some (.ref a),some (.bl bm),v2,v3,v4]/\SameN H H2/\aiS H2 aK aL aM) ⟨_,_,_,rfl,abP (Same.refl _),hT⟩ ?turn ?done⟩
 case lo=>
  rw[hl63]
  split<;>(try split)<;>omega
 case hi=>
  rw[hl63]
  split<;>(try split)<;>omega
 case done=>
  rintro σ H2 ⟨v2,v3,v4,rfl,_⟩
  exact q H2
 case turn=>
  rintro i σ H2 hi ⟨v2,v3,v4,rfl,sN,hT2⟩
  have hi':i<900:=by
   rw[hl63] at hi
   split at hi<;>(try split at hi)<;>omega
  refine⟨_,rfl,_,rfl,a,_,rfl,⟨ns,av9 sN hS⟩,⟨by omega,by omega⟩,fun c=>?_⟩
  refine⟨_,rfl,_,rfl,c,bm,rfl,fun t w0 w2 w3 w4 dm y1 y2 v3' v5' Mn kd kw ms H3 s3 ht hMn hms hml f0 f3 d2 d4 hdm mv3 mv5=>?_⟩
  have l60:aaO [dm]<2^60:=ayY (n:=60) (fun z hz=>by rw[bE.mp hz];omega)
  refine⟨_,rfl,t,_,_,_,rfl,rfl,SqT.of ht,rfl,w0,[42],w2,w3,w4,aaO [dm],aaO (acU 0 23 1),aaO ms,kd,kw,rfl,f0,ft_hours,f3,d2,d4,⟨l60,ad8.1⟩,fun x dx dv wv tm H4 htm s4 hx hdv hwv=>?_⟩
  subst htm
  have hR:RowR (⟨aB,aE,aF,aH,aD,aA,aG,aI⟩:Cs) aJ H4 x (aaO [dm]) (aaO (acU 0 23 1)) (aaO ms) (gO false kd) (gO true kw):=⟨dx,dv,wv,hx,⟨f0.nn,ft_hours.nn,f3.nn⟩,⟨ad8.1,l60⟩,hdv,hwv⟩
  have hg:=hR.ok
  refine⟨_,rfl,t,_,y1,y2,v3',v5',Mn,kd,kw,ms,rfl,s4 _ _ ht,s4 _ _ hMn,hms,hml,mv3.keep s4,mv5.keep s4,fun b H5 s5 hb=>?_⟩
  have nb:nvr (aaO ms) kd kw=b:=by
   rw[cG,hb]
   exact aFE rfl hms mv3.ok mv5.ok mv3.nw mv5.nw
  have ng:nvr (aaO ms) (gO false kd) (gO true kw)=b:=by rw[aHO d2 d4];exact nb
  have s25:Same H2 H5:=s3.trans (s4.trans s5)
  refine⟨_,rfl,_,_,rfl,rfl,⟨by decide,by decide⟩,_,_,rfl,rfl,⟨by decide,by decide,by decide⟩,_,_,rfl,rfl,.inl ⟨by decide,by decide⟩,_,_,rfl,rfl,(by show (0:Int)<2*10^(40:Int).toNat;decide +kernel),_,_,rfl,rfl,⟨by decide,by decide,by decide⟩,_,_,rfl,rfl,x,b,_,_,_,_,gO false kd,gO true kw,rfl,RowR.keepN (abP s5) hR,acG s25 hT2,ng,(fun z=>aBW hg (ng.trans z)),(fun z=>?_),fun H6 s6 T6=>⟨_,rfl,ifF rfl ⟨_,_,_,rfl,(sN.trans (abP s25)).trans s6,T6⟩⟩⟩
  obtain⟨t',h'⟩:=aB0 (aBD (aDO ft_hours.nn ad8.1 f0.nn l60)) (r:=dm.toNat) (by omega) (aGK hdm.1 hdm.2) (nb.trans z) mv3.ok mv5.ok mv3.nw mv5.nw
  exact⟨t',ev_g d2 d4 h'⟩
end
theorem all_mk{l:PySem.W.OpenLaw}{w:World}{K:FG}{h:Heap}{mg:Str->Option Value}{fa f:Addr}{aI aB aE aF aH aD aA aG aJ aP aO aQ aK aR aL aM a_MONTH_LASTS a_BOUNDS a_BOUNDS_0 a_BOUNDS_1 a_BOUNDS_3:Addr}{t_ROUND_DAYS t_ROUND_YEARS t_LONG_PLACE t_DAY_MINUTES t_HOUR_MINUTES t_FIGURES t_MOST_STRIDE t_MOST_SIGNS t_MOST_ITEMS t_SATURDAY t_SUNDAY t_MOST_BACK t_MOST_DAY t_SUNDAY_TOO t_MOST_NTH t_MOST_MARKS t_ALL_WEEKDAYS t_LONG_LAST t_SHORT_YEAR t_MINUTE t_HOUR t_DAY t_MONTH t_WEEKDAY t_MOST_ROW_SIGNS t_NO_PLACE t_MOST_MONTHS t_MOST_MONTH_MINUTES t_KINDS:Tok}{oc kV dc pm cd ct:Value}{od an:Option Addr}{sl:Array (Option Value)}(X:K.In h)(G:h.Ns mainGlobals mg)(hfa:mg "law"=some (.ref fa))(ZZ:Fs K mg aI aB aE aF aH aD aA aG aJ aP aO aQ aK aR aL aM a_MONTH_LASTS a_BOUNDS a_BOUNDS_0 a_BOUNDS_1 a_BOUNDS_3 t_ROUND_DAYS t_ROUND_YEARS t_LONG_PLACE t_DAY_MINUTES t_HOUR_MINUTES t_FIGURES t_MOST_STRIDE t_MOST_SIGNS t_MOST_ITEMS t_SATURDAY t_SUNDAY t_MOST_BACK t_MOST_DAY t_SUNDAY_TOO t_MOST_NTH t_MOST_MARKS t_ALL_WEEKDAYS t_LONG_LAST t_SHORT_YEAR t_MINUTE t_HOUR t_DAY t_MONTH t_WEEKDAY t_MOST_ROW_SIGNS t_NO_PLACE t_MOST_MONTHS t_MOST_MONTH_MINUTES t_KINDS)
  (a:PySem.W.nsIn K mainGlobals "law"=some (some (.ref f))) (lk:K.lookup f=some ⟨oc,od,.func (PySem.W.fnOf "law" "law" (aa5 amM) (aaV amM) (aaC amM) .none kV dc pm an cd ct),sl⟩) (c:PySem.W.codeIn K cd "law"=true) (k:PySem.W.keepIn K (.ref f)=true):
  ∃fd:FuncData,(∀(s:Shared) (v:Value),BindsTo s fd ⟨[v],[]⟩ [("_law_script",v)])/\∀base:Heap,K.In base->base.Ns mainGlobals mg->FnOk l.prog w K mg base CX0 13 fa fd ["_law_script"] (apP K aK aL aM):=by
 cases hfa.symm.trans (PySem.W.mg_of X G a)
 exact⟨_,fun s v=>.of_eq rfl,fun base _ _=>aF1 ZZ (apM (st:=amM) lk c k)⟩
theorem walk{l:PySem.W.OpenLaw}{q:Program}{loose:List Str}{XP:(Str->Option Value)->Heap->Prop}{YP:World->Heap->Prop}{d:DefRec}{K:Params->FG}{tN tL bm:Addr}(ne:tN≠tL)(hn:l.most=some 63)(hdf:d.params.defaults=[])
  (hY:∀(w:World) (h:Heap),YP w h->(K w.params).In h)
  (hTb:∀(w:World) (h:Heap) (mean:ExcName->Option Value) (mg mb:Str->Option Value),(K w.params).In h->Top q (PySem.W.looseW q loose) mean mg mb h->∀b∈[tN,tL],(isCodeTable h b/\h.get? b=some (PySem.W.tabObj #[]))/\(K w.params).lookup b=none)
  (hBm:∀(w:World) (h:Heap) (mg:Str->Option Value),(K w.params).In h->h.Ns mainGlobals mg->mg "__builtins__"=some (.ref bm)/\(K w.params).lookup bm=none)
  (F:∀(w:World) (mg:Str->Option Value) (fa:Addr) (h:Heap),(K w.params).In h->h.Ns mainGlobals mg->mg d.name=some (.ref fa)->
   ∃fd:FuncData,(∀(s:Shared) (u:Value),BindsTo s fd ⟨[u],[]⟩ [("_law_script",u)])/\∀base:Heap,(K w.params).In base->base.Ns mainGlobals mg->FnOk l.prog w (K w.params) mg base CX0 13 fa fd ["_law_script"] (apP (K w.params) tN tL bm)):
  PySem.W.WalkO q loose XP YP l.row.toRowW d [] (fun f vs=>PySem.call f vs):=
 L2.walk_ofT (n:=63) (k:=13) (x:="_law_script") (tabs:=fun _=>[tN,tL]) (sp:=fun w=>apP (K w.params) tN tL bm) hn (by decide) hdf ⟨rfl,by decide,by decide⟩ hY hTb hBm F fun _ _ a ns hl hO hS=>⟨a,ns,rfl,hS,hl,⟨.inl (hO.1 _ bP),.inl (hO.1 _ (bM _ bP)),ne,hO.2.2⟩,fun _=>rfl⟩
end K53
open PySem PySem.W PyProof.Rows L2
set_option maxRecDepth 100000 in
set_option maxHeartbeats 0 in
theorem PySem.Challenge.cw_fivefields_k53_never_holds : PySem.Challenge.rw_fivefields_k53_never.Holds := by
 w_on;refine holds_law Hd.ws fun said=>?_;refine Hd.lst said ?hw ?hc;(case hw=>w_witness2)
 k_fill
 refine K53.walk (l:=PySem.Challenge.rw_fivefields_k53_never) (tN:=320) (tL:=327) (bm:=4) (by decide) rfl Hd.h4 (fun w h Y=>PySem.W.kIn_of Y) Hd.tb Hd.tbm ?F
 case F=>
  intro w mg fa h KX G hmg
  rw[Hd.h5] at hmg
  refine' K53.all_mk (aQ:=324) (aK:=320) (aR:=331) (aL:=327) (aM:=4) KX G hmg ⟨
   ⟨PySem.W.mg_of KX G ?_,⟨?_,?_,?_,?_⟩,?_,?_⟩,
   ?_,
   ⟨PySem.W.mg_of KX G ?_,⟨?_,?_,?_,?_⟩,?_,?_⟩,
   ?_,
   ⟨PySem.W.mg_of KX G ?_,⟨?_,?_,?_,?_⟩,?_,?_⟩,
   ?_,
   ⟨PySem.W.mg_of KX G ?_,⟨?_,?_,?_,?_⟩,?_,?_⟩,
   ?_,
   ⟨PySem.W.mg_of KX G ?_,⟨?_,?_,?_,?_⟩,?_,?_⟩,
   ?_,
   ⟨PySem.W.mg_of KX G ?_,⟨?_,?_,?_,?_⟩,?_,?_⟩,
   ?_,
   ⟨PySem.W.mg_of KX G ?_,⟨?_,?_,?_,?_⟩,?_,?_⟩,
   ?_,
   ?_,
   ⟨PySem.W.mg_of KX G ?_,⟨?_,?_,?_,?_⟩,?_,?_⟩,
   ?_,
   ⟨PySem.W.mg_of KX G ?_,⟨?_,?_,?_,?_⟩,?_,?_⟩,
   ?_,
   ?_,
   ?_,
   ?_,
   ?_,
   ?_,
   PySem.W.mg_of KX G ?_,
   PySem.W.mg_of KX G ?_,
   PySem.W.mg_of KX G ?_,
   K53.q_MONTH_LASTS ?_,
   PySem.W.mg_of KX G ?_,
   PySem.W.mg_of KX G ?_,
   PySem.W.mg_of KX G ?_,
   PySem.W.mg_of KX G ?_,
   PySem.W.mg_of KX G ?_,
   K53.mg_tx (x:="0123456789") KX G (by decide +kernel) ?_,
   PySem.W.mg_of KX G ?_,
   PySem.W.mg_of KX G ?_,
   PySem.W.mg_of KX G ?_,
   PySem.W.mg_of KX G ?_,
   PySem.W.mg_of KX G ?_,
   PySem.W.mg_of KX G ?_,
   PySem.W.mg_of KX G ?_,
   PySem.W.mg_of KX G ?_,
   PySem.W.mg_of KX G ?_,
   PySem.W.mg_of KX G ?_,
   PySem.W.mg_of KX G ?_,
   PySem.W.mg_of KX G ?_,
   PySem.W.mg_of KX G ?_,
   PySem.W.mg_of KX G ?_,
   PySem.W.mg_of KX G ?_,
   PySem.W.mg_of KX G ?_,
   PySem.W.mg_of KX G ?_,
   PySem.W.mg_of KX G ?_,
   PySem.W.mg_of KX G ?_,
   K53.q_BOUNDS ?_,
   K53.q_BOUNDS_0 ?_,
   K53.q_BOUNDS_1 ?_,
   K53.q_BOUNDS_3 ?_,
   PySem.W.mg_of KX G ?_,
   PySem.W.mg_of KX G ?_,
   PySem.W.mg_of KX G ?_,
   PySem.W.mg_of KX G ?_,
   PySem.W.mg_of KX G ?_,
   avA KX G ?_ ?_ ?_ ?_,
   avA KX G ?_ ?_ ?_ ?_,
   PySem.W.mg_none_of KX G ?_,
   PySem.W.mg_none_of KX G ?_,
   PySem.W.mg_none_of KX G ?_,
   PySem.W.mg_none_of KX G ?_,
   PySem.W.mg_none_of KX G ?_,
   PySem.W.mg_none_of KX G ?_,
   PySem.W.mg_none_of KX G ?_,
   PySem.W.mg_none_of KX G ?_,
   PySem.W.mg_none_of KX G ?_,
   PySem.W.mg_none_of KX G ?_,
   PySem.W.mg_none_of KX G ?_,
   PySem.W.mg_none_of KX G ?_,
   PySem.W.mg_none_of KX G ?_,
   PySem.W.mg_none_of KX G ?_,
   PySem.W.mg_none_of KX G ?_,
   PySem.W.mg_none_of KX G ?_,
   aaK KX G ?_ ?_ ?_ ?_ ?_,
   aaK KX G ?_ ?_ ?_ ?_ ?_,
   aaK KX G ?_ ?_ ?_ ?_ ?_,
   aaK KX G ?_ ?_ ?_ ?_ ?_,
   aaK KX G ?_ ?_ ?_ ?_ ?_,
   aaK KX G ?_ ?_ ?_ ?_ ?_,
   aaK KX G ?_ ?_ ?_ ?_ ?_,
   aaK KX G ?_ ?_ ?_ ?_ ?_,
   aaK KX G ?_ ?_ ?_ ?_ ?_,
   aaK KX G ?_ ?_ ?_ ?_ ?_,
   aaK KX G ?_ ?_ ?_ ?_ ?_,
   aaK KX G ?_ ?_ ?_ ?_ ?_,
   aaK KX G ?_ ?_ ?_ ?_ ?_,
   aaK KX G ?_ ?_ ?_ ?_ ?_,
   aaK KX G ?_ ?_ ?_ ?_ ?_,
   aaK KX G ?_ ?_ ?_ ?_ ?_,
   aaK KX G ?_ ?_ ?_ ?_ ?_,
   aaK KX G ?_ ?_ ?_ ?_ ?_,
   aaK KX G ?_ ?_ ?_ ?_ ?_,
   aaK KX G ?_ ?_ ?_ ?_ ?_,
   aaK KX G ?_ ?_ ?_ ?_ ?_,
   aaK KX G ?_ ?_ ?_ ?_ ?_,
   aaK KX G ?_ ?_ ?_ ?_ ?_,
   aaK KX G ?_ ?_ ?_ ?_ ?_,
   aaK KX G ?_ ?_ ?_ ?_ ?_,
   aaK KX G ?_ ?_ ?_ ?_ ?_,
   aaK KX G ?_ ?_ ?_ ?_ ?_,
   aaK KX G ?_ ?_ ?_ ?_ ?_,
   abH ?_ ?_ ?_ ?_ ?_ ?_,
   abH ?_ ?_ ?_ ?_ ?_ ?_,
   abH ?_ ?_ ?_ ?_ ?_ ?_,
   K53.md_Last___init__ ?_ ?_ ?_ ?_ ?_ ?_,
   abH ?_ ?_ ?_ ?_ ?_ ?_,
   abH ?_ ?_ ?_ ?_ ?_ ?_,
   abH ?_ ?_ ?_ ?_ ?_ ?_,
   abH ?_ ?_ ?_ ?_ ?_ ?_,
   abH ?_ ?_ ?_ ?_ ?_ ?_,
   abH ?_ ?_ ?_ ?_ ?_ ?_,
   abH ?_ ?_ ?_ ?_ ?_ ?_,
   abH ?_ ?_ ?_ ?_ ?_ ?_,
   abH ?_ ?_ ?_ ?_ ?_ ?_,
   abH ?_ ?_ ?_ ?_ ?_ ?_,
   aaK KX G ?_ ?_ ?_ ?_ ?_,
   aaK KX G ?_ ?_ ?_ ?_ ?_,
   aaK KX G ?_ ?_ ?_ ?_ ?_,
   aaK KX G ?_ ?_ ?_ ?_ ?_,
   aaK KX G ?_ ?_ ?_ ?_ ?_,
   aaK KX G ?_ ?_ ?_ ?_ ?_,
   aaK KX G ?_ ?_ ?_ ?_ ?_,
   aaK KX G ?_ ?_ ?_ ?_ ?_,
   aaK KX G ?_ ?_ ?_ ?_ ?_,
   aaK KX G ?_ ?_ ?_ ?_ ?_,
   abH ?_ ?_ ?_ ?_ ?_ ?_,
   abH ?_ ?_ ?_ ?_ ?_ ?_,
   aaK KX G ?_ ?_ ?_ ?_ ?_,
   aaK KX G ?_ ?_ ?_ ?_ ?_,
   aaK KX G ?_ ?_ ?_ ?_ ?_,
   abH ?_ ?_ ?_ ?_ ?_ ?_,
   aaK KX G ?_ ?_ ?_ ?_ ?_,
   aaK KX G ?_ ?_ ?_ ?_ ?_,
   aaK KX G ?_ ?_ ?_ ?_ ?_,
   aaK KX G ?_ ?_ ?_ ?_ ?_,
   aaK KX G ?_ ?_ ?_ ?_ ?_,
   aaK KX G ?_ ?_ ?_ ?_ ?_,
   aaK KX G ?_ ?_ ?_ ?_ ?_,
   aaK KX G ?_ ?_ ?_ ?_ ?_,
   aaK KX G ?_ ?_ ?_ ?_ ?_,
   abH ?_ ?_ ?_ ?_ ?_ ?_,
   aaK KX G ?_ ?_ ?_ ?_ ?_,
   aaK KX G ?_ ?_ ?_ ?_ ?_,
   aaK KX G ?_ ?_ ?_ ?_ ?_,
   ayS KX G ?_ ?_ ?_ ?_ ?_,
   ayS KX G ?_ ?_ ?_ ?_ ?_,
   aaK KX G ?_ ?_ ?_ ?_ ?_,
   aaK KX G ?_ ?_ ?_ ?_ ?_,
   aaK KX G ?_ ?_ ?_ ?_ ?_,
   aaK KX G ?_ ?_ ?_ ?_ ?_,
   aaK KX G ?_ ?_ ?_ ?_ ?_,
   aaK KX G ?_ ?_ ?_ ?_ ?_,
   aaK KX G ?_ ?_ ?_ ?_ ?_,
   aaK KX G ?_ ?_ ?_ ?_ ?_,
   aaK KX G ?_ ?_ ?_ ?_ ?_,
   aaK KX G ?_ ?_ ?_ ?_ ?_,
   aaK KX G ?_ ?_ ?_ ?_ ?_,
   aaK KX G ?_ ?_ ?_ ?_ ?_⟩ ?_ ?_ ?_ ?_
  all_goals try (intro _ _ _ _ _ _ us hl;first | (obtain⟨_,rfl⟩:=aLI hl;rfl) | (obtain⟨_,_,rfl⟩:=aJ5 hl;rfl) | (obtain⟨_,_,_,rfl⟩:=aHR hl;rfl) | (obtain⟨_,_,_,_,rfl⟩:=len4 hl;rfl))
  all_goals try decide
  all_goals try (as_aux_lemma=>k_is)
  all_goals try decide
