import PyProof.Rows.All
import Wide.All
import OpenK.AllK
import Wide.FinOn
import KE.KLam
import Lean
import PyProof.EqAt
import PyProof.EqKinds
import PyProof.TupleCall
import PySem.Challenge.RW_fivefields_k55_papers_of_any_kind
local macro_rules
  | `(tactic| omega) => `(tactic| lia)
set_option maxHeartbeats 4000000
set_option compiler.extract_closed false
namespace Hd
open PySem PySem.W PySem.Calls PyProof.Rows
section
set_option maxHeartbeats 0
set_option maxRecDepth 100000
set_option linter.all false
theorem ws:OpenLaw.wellSaid PySem.Challenge.rw_fivefields_k55_papers_of_any_kind=true:=by
 delta OpenLaw.wellSaid
 with_reducible refine look_both (look_both (look_both (look_both (look_both (look_both (look_both (look_both (look_both (look_both (look_both (look_both (look_both (look_both (look_both (look_both (look_both (look_both ?_ ?_) ?_) ?_) ?_) ?_) ?_) ?_) ?_) ?_) ?_) ?_) ?_) ?_) ?_) ?_) ?_) ?_) ?_
 ·delta OpenRow.wellSaid
  with_reducible refine look_both (look_both ?_ ?_) ?_
  ·delta OpenRow.partSaid
   with_reducible refine look_both (look_both (look_both (look_both (look_both (look_both (look_both (look_both (look_both (look_both (look_both (look_both ?_ ?_) ?_) ?_) ?_) ?_) ?_) ?_) ?_) ?_) ?_) ?_) ?_
   ·delta looksOpen
    with_reducible refine look_both (look_both (look_both (look_both (look_both ?_ ?_) ?_) ?_) ?_) ?_
    all_goals decide +kernel
   all_goals decide +kernel
  all_goals decide +kernel
 all_goals decide +kernel
noncomputable section
noncomputable abbrev pw:Program:=PySem.Challenge.pw_fivefields_k55_papers_of_any_kind
noncomputable abbrev bi:List Stmt:=behindTheImports pw
noncomputable def nth:List Stmt->Nat->Stmt
 |s::_,0=>s
 |_::r,n+1=>nth r n
 |[],_=>.Pass default
noncomputable def tp(i:Nat):Stmt:=nth pw.main.body i
noncomputable def bd:Stmt->List Stmt
 |.FunctionDef _ _ b _ _ _ _ _ _ _=>b
 |.ClassDef _ _ _ b _ _ _ _ _ _ _=>b
 |_=>[]
noncomputable def ag:Stmt->Arguments
 |.FunctionDef _ a _ _ _ _ _ _ _ _=>a
 |_=>⟨[],[],none,[],[],none,[]⟩
noncomputable def sc:Stmt->Scope
 |.FunctionDef _ _ _ _ _ _ s _ _ _=>s
 |.ClassDef _ _ _ _ _ _ s _ _ _ _=>s
 |_=>pw.main.scope
noncomputable def r(a:Addr):Value:=.ref a
noncomputable def i(n:Int):Value:=.int n 0
noncomputable def de(P:Params)(k:Str)(t:Tok)(v:Value):DictEntry:=⟨PyData.keyHash P k,.str k t,v⟩
noncomputable def tu(l:List Value):Obj:=⟨.type "tuple",none,.seq l.toArray 0,#[]⟩
noncomputable def di(l:List DictEntry)(n:Nat):Obj:=⟨.type "dict",none,.dict l.toArray n,#[]⟩
noncomputable def co(l:List Value):Obj:=⟨.type "code",none,.fields l.toArray,#[]⟩
noncomputable def fd(l:List Value):Obj:=⟨.none,none,.fields l.toArray,#[]⟩
noncomputable def lf(x:Obj):BT:=.node x .nil .nil
noncomputable abbrev nd:Obj->BT->BT->BT:=BT.node
noncomputable def sf(t:Tok):Value:=.str "/claim/cut.py" t
noncomputable def fz(n q:Str)(s:Stmt):Obj:=⟨.none,none,.func ⟨n,q,ag s,.stmts (bd s),sc s,0,[],.none,.none,.none,.none,none,.none,.none,0⟩,#[]⟩
noncomputable def fn(n q:Str)(s:Stmt)(g:Addr)(c:List (Str×Addr))(d k o m:Value)(a:Option Addr)(x y:Value)(b:Addr):Obj:=⟨.type "function",none,.func ⟨n,q,ag s,.stmts (bd s),sc s,g,c,d,k,o,m,a,x,y,b⟩,#[]⟩
noncomputable def ib(s:Stmt)(i:Nat):Stmt:=nth (bd s) i
noncomputable def ev:Env:={scope:=pw.main.scope,locals:=mainNs,globals:=mainNs,cells:=[],code:=(r 13),frame:=some 14}
noncomputable def cd:Code:=.body bi ev
noncomputable abbrev an:Option Value:=(some (r 6))
noncomputable abbrev bk:List Frame:=[topFrame ⟨0,0,0,0⟩]
def cO(n q:Str)(t l c x a u:Nat):Obj:=co [.str n t,.str q (t+1),sf (t+2),i (Int.ofNat l),i (Int.ofNat c),i 0,i 0,i (Int.ofNat x),r a,.bool true,i 181,r (a+1),.none,r (a+2),r (a+3),r (a+4),i (Int.ofNat u),i (Int.ofNat l),sf (u+1)]
def cP(n:Str)(t l c x a u:Nat):Obj:=cO n n t l c x a u
def cK(n q:Str)(t l a u:Nat):Obj:=co [.str n t,.str q (t+1),sf (t+2),i (Int.ofNat l),i 0,i 0,i 0,i 0,r a,.bool false,i 181,r (a+1),.none,.none,.none,.none,i (Int.ofNat u),i (Int.ofNat l),sf (u+1)]
def fQ(n q:Str)(s:Stmt)(m:Value)(a:Addr):Obj:=fn n q s 3 [] .none .none .none m none (r a) .none 0
def fP(n:Str)(k:Nat)(m:Value)(a:Addr):Obj:=fQ n n (tp k) m a
def fY(n:Str)(k:Nat):Obj:=fz n n (tp k)
def fS(n q:Str)(s z:Stmt)(m:Value)(a:Addr):Obj:=⟨(.type "function"),none,(.func ⟨n,q,ag s,.stmts (bd s),sc z,3,[],.none,.none,.none,m,none,r a,.none,0⟩),#[]⟩
def fT(n q:Str)(s z:Stmt):Obj:=⟨.none,none,(.func ⟨n,q,ag s,.stmts (bd s),sc z,0,[],.none,.none,.none,.none,none,.none,.none,0⟩),#[]⟩
def ss:List Str->Nat->List Value
 |[],_=>[]
 |x::l,n=>.str x n::ss l (n+1)
def tS(n:Nat)(l:List Str):Obj:=tu (ss l n)
def dr(P:Params)(k:Str)(t:Tok)(a:Addr):DictEntry:=de P k t (r a)
def f3(k:Nat):List (Nat×Nat)->List Value
 |[]=>[]
 |(a,b)::l=>i (Int.ofNat a)::i (Int.ofNat k)::r b::f3 k l
def fD(k:Nat)(l:List (Nat×Nat)):Obj:=fd (f3 k l)
def fr(a b:Addr)(m:Value):Obj:=⟨(.type "frame"),none,.plain,#[some (r a),some (r 3),some (r b),none,some m,none,some (r 0)]⟩
def bm(s:String)(v:Value):Obj:=⟨(.type "builtin_function_or_method"),none,(.fields #[.builtin s,v]),#[]⟩
def sp2(l:List Obj):List Obj×List Obj:=List.rec ([],[]) (fun x _ p=>(x::p.2,p.1)) l
def brn:Nat->List Obj->BT
 |0,_=>.nil
 |_+1,[]=>.nil
 |n+1,x::l=>.node x (brn n (sp2 l).1) (brn n (sp2 l).2)
def su(a b c:Addr):Obj:=⟨(.type "super"),none,(.fields #[r a,r b,r c]),#[]⟩
def mv0:Value:=.str "fivefields.marks" 746
def mv1:Value:=.str "fivefields.errors" 194
def mv2:Value:=.str "fivefields.days" 289
def mv3:Value:=.str "fivefields.months" 410
def mv4:Value:=.str "fivefields.ranges" 453
def mv5:Value:=.str "fivefields.papers" 505
def mv6:Value:=.str "fivefields.leaps" 605
def mv7:Value:=.str "fivefields.fields" 660
def mv8:Value:=.str "law_fivefields_k55_papers_of_any_kind" 1365
def mv9:Value:=.str "fivefields.rows" 1189
def o0:=tu []
def o1:=fd []
def o2:=cK "<module>" "<module>" 182 1 11 185
def o3:Obj:=⟨(.type "frame"),none,.plain,#[(some (r 13)),(some (r 3)),(some (r 3)),none,(some (.str "__main__" 164)),none,(some (r 0))]⟩
def hA(P:Params):Heap:=⟨⟨[(boot_o_0 P),(boot_o_1 P),(boot_o_2 P),(boot_o_3 P),(boot_o_4 P),(boot_o_5 P),(boot_o_6 P),(boot_o_7 P),(boot_o_8 P),(boot_o_9 P),(boot_o_10 P),o0,o1,o2,o3]⟩,⟨[],[],[],0,[],[],false,#[],[],0,false,false,false,0,[2000,10,10],false,0,true,[],[],0,false⟩⟩
def sA(w:World)(os:OsState):Shared:=⟨hA w.params,#[],⟨0,0,0,0⟩,187,os⟩
theorem pre(w:World)(os:OsState):
  topGo treeTable pw w 11 an 12 ⟨boot_heap w.params,⟨[]⟩,boot_drawn,boot_toks,os⟩ (topStub pw) =
  some (sA w os,⟨denote treeTable cd,cd,⟨0,0,0,0⟩,bk⟩):=by kernel_rfl
def t0(P:Params):BT:=brn 5 [(boot_o_0 P),(boot_o_1 P),(boot_o_2 P),(boot_o_3 P),(boot_o_4 P),(boot_o_5 P),(boot_o_6 P),(boot_o_7 P),(boot_o_8 P),(boot_o_9 P),(boot_o_10 P),o0,o1,o2,o3]
def s0(w:World)(os:OsState):SharedT:=⟨t0 w.params,15,⟨[],[],[],0,[],[],false,#[],[],0,false,false,false,0,[2000,10,10],false,0,true,[],[],0,false⟩,#[],⟨0,0,0,0⟩,187,os⟩
theorem blk(w:World)(os:OsState):
  segRun treeTable pw w 11 an 1 1 (sA w os) (blockOf bi ev cd ⟨0,0,0,0⟩ bk) =
  some (.next,(s0 w os).abs,cd,⟨0,0,0,0⟩):=by kernel_rfl
def o4(P:Params):=di [de P "__name__" 165 mv0,de P "__doc__" 166 .none,de P "__package__" 167 .none,de P "__loader__" 168 (.builtin "__main__.__loader__#opaque"),de P "__spec__" 169 .none,dr P "__annotations__" 170 6,dr P "__builtins__" 171 4,de P "__file__" 173 (sf 172),de P "__cached__" 174 .none,dr P "_wall" 193 21,dr P "FieldError" 213 31,dr P "NoDay" 229 44,dr P "NoField" 254 63,dr P "NoRow" 279 82,dr P "is_whole" 288 91,dr P "MONTH_LASTS" 303 92,de P "ROUND_YEARS" 305 (.int 400 304),de P "ROUND_DAYS" 307 (.int 146097 306),dr P "is_long" 314 99,dr P "multiples_before" 322 106,dr P "days_before" 330 113,dr P "last_of" 338 120,dr P "is_date" 347 127,dr P "day_of" 353 132,dr P "year_of" 361 139,dr P "date_of" 371 146,dr P "weekday" 378 153,de P "FIGURES" 382 (.str "0123456789" 381),dr P "all_figures" 388 158,dr P "is_written" 395 165,de P "DAY_MINUTES" 399 (.int 1440 398),de P "HOUR_MINUTES" 401 (.int 60 400),dr P "parted" 409 172,de P "LONG_PLACE" 413 (.int 12 412),de P "LONG_LAST" 415 (.int 29 414),de P "SHORT_YEAR" 417 (.int 1 416),dr P "kind_from" 427 179,dr P "kind_of" 435 186,dr P "month_at" 444 193,dr P "next_month" 452 200,dr P "has" 462 207,dr P "lowest" 469 214,dr P "starts_of" 475 219,dr P "end_from" 484 226,dr P "ranges_of" 490 231,dr P "shown_range" 498 238,dr P "shown_ranges" 504 243,dr P "WORDS" 511 244,de P "MOST_DAYS" 513 (.int 400 512),dr P "add_stretch" 523 251,dr P "field_shuts" 535 258,dr P "last_shut_day" 546 265,dr P "shut_end" 555 272,dr P "paper_of" 568 279,dr P "is_stretch" 575 286,dr P "goes_end_to_end" 587 293,dr P "is_shut" 598 300,dr P "shuts" 604 305,de P "MOST_MONTHS" 608 (.int 492 607),dr P "minutes_on" 618 312,dr P "minutes_by" 627 319,dr P "month_of" 635 326,dr P "first_at" 649 333,dr P "next_from" 659 340,de P "MOST_SIGNS" 663 (.int 300 662),de P "MOST_ITEMS" 665 (.int 40 664),de P "MOST_STRIDE" 667 (.int 99 666),dr P "mask_of" 676 347,dr P "numbers_in" 682 352,dr P "run_mask" 691 359,dr P "read_number" 701 366,dr P "read_run" 707 371,dr P "read_strided" 720 378,dr P "read_item" 731 385,dr P "read_field" 745 392,de P "MOST_MARKS" 749 (.int 20 748),de P "MOST_DAY" 751 (.int 31 750),de P "MOST_BACK" 753 (.int 30 752),de P "MOST_NTH" 755 (.int 5 754),de P "SUNDAY" 757 (.int 0 756),de P "SATURDAY" 759 (.int 6 758),de P "SUNDAY_TOO" 761 (.int 7 760),de P "ALL_WEEKDAYS" 763 (.int 127 762),dr P "weekday_at" 771 399,dr P "all_days" 778 406,dr P "nearest_work" 788 413,dr P "first_one" 796 420,dr P "Mark" 832 444,dr P "Numbers" 873 479,dr P "Last" 915 513,dr P "Near" 956 546,dr P "LastWork" 988 572,dr P "Weekdays" 1031 605,dr P "Nth" 1075 638] 94
def o5:=fD 0 [(1,20),(5,27),(7,40),(9,52),(13,71),(18,90),(24,98),(26,105),(28,112),(31,119),(35,126),(39,131),(44,138),(49,145),(57,152),(61,157),(63,164),(68,171),(75,178),(78,185),(80,192),(86,199),(91,206),(93,213),(95,218),(98,225),(103,230),(105,237),(109,242),(114,250),(119,257),(130,264),(137,271),(143,278),(152,285),(158,292),(167,299),(176,304),(184,311),(189,318),(193,325),(196,332),(207,339),(216,346),(221,351),(223,358),(225,365),(232,370),(239,377),(246,384),(254,391),(276,398),(278,405),(280,412),(287,419),(289,426),(296,454),(306,487),(320,521),(332,554),(339,580),(352,613)]
def o6:=tS 190 ["k"]
def o7:=fY "_wall" 0
def o8:=cP "_wall" 187 1 1 3 15 191
def o9:=fn "_wall" "_wall" (tp 0) 3 [] .none .none .none (.str "__main__" 164) none (r 20) .none 0
def o10:=tu [(.type "ValueError")]
def o11:=bm "type.__prepare__" (.type "type")
def o12(P:Params):=di [de P "__module__" 203 mv1,de P "__qualname__" 205 (.str "FieldError" 204),de P "__firstlineno__" 207 (.int 5 206),dr P "__static_attributes__" 208 29] 4
def o13:=cK "FieldError" "FieldError" 198 5 25 201
def o14:=fr 27 24 mv1
def o15(P:Params):=di [de P "__module__" 203 mv1,de P "__firstlineno__" 207 (.int 5 206),dr P "__static_attributes__" 208 29,dr P "__weakref__" 210 32,de P "__doc__" 211 .none] 3
def o16:Obj:=⟨(.type "type"),none,(.cls ⟨"FieldError",[(.type "ValueError")],[(r 31),(.type "ValueError"),(.type "Exception"),(.type "BaseException"),(.type "object")],30,"FieldError",true,[],[(r 44),(r 63),(r 82)],false,none,false⟩),#[(some (r 22)),none,(some (.str "FieldError" 196)),(some (.str "FieldError" 204)),(some (.builtin "ValueError.__new__")),(some (.bool true))]⟩
def o17:Obj:=⟨(.type "getset_descriptor"),none,(.fields #[(.str "__weakref__" 209),(r 31),(.builtin "ExceptionGroup.__weakref__"),.none]),#[]⟩
def o18:=su 31 31 31
def o19:=bm "object.__init_subclass__" (r 31)
def o20:=tu [(r 31)]
def o21(P:Params):=di [de P "__module__" 221 mv1,de P "__qualname__" 223 (.str "NoDay" 222),de P "__firstlineno__" 225 (.int 7 224),dr P "__static_attributes__" 226 42] 4
def o22:=cK "NoDay" "NoDay" 216 7 38 219
def o23:=fr 40 37 mv1
def o24(P:Params):=di [de P "__module__" 221 mv1,de P "__firstlineno__" 225 (.int 7 224),dr P "__static_attributes__" 226 42,de P "__doc__" 227 .none] 2
def o25:Obj:=⟨(.type "type"),none,(.cls ⟨"NoDay",[(r 31)],[(r 44),(r 31),(.type "ValueError"),(.type "Exception"),(.type "BaseException"),(.type "object")],43,"NoDay",true,[],[],false,none,false⟩),#[(some (r 35)),none,(some (.str "NoDay" 214)),(some (.str "NoDay" 222)),(some (.builtin "ValueError.__new__")),(some (.bool true))]⟩
def o26:=su 44 44 44
def o27:=bm "object.__init_subclass__" (r 44)
def o28(P:Params):=di [de P "__module__" 237 mv1,de P "__qualname__" 239 (.str "NoField" 238),de P "__firstlineno__" 241 (.int 9 240),dr P "__init__" 249 60,dr P "__static_attributes__" 251 61] 5
def o29:=fD 4 [(11,59)]
def o30:=cK "NoField" "NoField" 232 9 50 235
def o31:=fr 52 49 mv1
def o32:=tS 245 ["self","at"]
def o33:=fz "__init__" "NoField.__init__" (ib (tp 4) 0)
def o34:=cO "__init__" "NoField.__init__" 242 11 2 3 54 247
def o35:=fQ "__init__" "NoField.__init__" (ib (tp 4) 0) mv1 59
def o36:=tS 250 ["at"]
def o37(P:Params):=di [de P "__module__" 237 mv1,de P "__firstlineno__" 241 (.int 9 240),dr P "__init__" 249 60,dr P "__static_attributes__" 251 61,de P "__doc__" 252 .none] 2
def o38:Obj:=⟨(.type "type"),none,(.cls ⟨"NoField",[(r 31)],[(r 63),(r 31),(.type "ValueError"),(.type "Exception"),(.type "BaseException"),(.type "object")],62,"NoField",true,[],[],false,none,false⟩),#[(some (r 47)),none,(some (.str "NoField" 230)),(some (.str "NoField" 238)),(some (.builtin "ValueError.__new__")),(some (.bool true))]⟩
def o39:=su 63 63 63
def o40:=bm "object.__init_subclass__" (r 63)
def o41(P:Params):=di [de P "__module__" 262 mv1,de P "__qualname__" 264 (.str "NoRow" 263),de P "__firstlineno__" 266 (.int 13 265),dr P "__init__" 274 79,dr P "__static_attributes__" 276 80] 5
def o42:=fD 4 [(15,78)]
def o43:=cK "NoRow" "NoRow" 257 13 69 260
def o44:=fr 71 68 mv1
def o45:=tS 270 ["self","place"]
def o46:=fz "__init__" "NoRow.__init__" (ib (tp 5) 0)
def o47:=cO "__init__" "NoRow.__init__" 267 15 2 3 73 272
def o48:=fQ "__init__" "NoRow.__init__" (ib (tp 5) 0) mv1 78
def o49:=tS 275 ["place"]
def o50(P:Params):=di [de P "__module__" 262 mv1,de P "__firstlineno__" 266 (.int 13 265),dr P "__init__" 274 79,dr P "__static_attributes__" 276 80,de P "__doc__" 277 .none] 2
def o51:Obj:=⟨(.type "type"),none,(.cls ⟨"NoRow",[(r 31)],[(r 82),(r 31),(.type "ValueError"),(.type "Exception"),(.type "BaseException"),(.type "object")],81,"NoRow",true,[],[],false,none,false⟩),#[(some (r 66)),none,(some (.str "NoRow" 255)),(some (.str "NoRow" 263)),(some (.builtin "ValueError.__new__")),(some (.bool true))]⟩
def o52:=su 82 82 82
def o53:=bm "object.__init_subclass__" (r 82)
def o54:=tS 285 ["thing"]
def o55:=fY "is_whole" 7
def o56:=cP "is_whole" 282 18 1 3 85 286
def o57:=fn "is_whole" "is_whole" (tp 7) 3 [] .none .none .none (.str "fivefields.wholes" 280) none (r 90) .none 0
def o58:=tu [(.int 31 291),(.int 28 292),(.int 31 293),(.int 30 294),(.int 31 295),(.int 30 296),(.int 31 297),(.int 31 298),(.int 30 299),(.int 31 300),(.int 30 301),(.int 31 302)]
def o59:=tS 311 ["year"]
def o60:=fY "is_long" 12
def o61:=cP "is_long" 308 24 1 3 93 312
def o62:=fP "is_long" 12 mv2 98
def o63:=tS 318 ["year","step"]
def o64:=fY "multiples_before" 13
def o65:=cP "multiples_before" 315 26 2 3 100 320
def o66:=fP "multiples_before" 13 mv2 105
def o67:=tS 326 ["year","longs"]
def o68:=fY "days_before" 14
def o69:=cP "days_before" 323 28 1 3 107 328
def o70:=fP "days_before" 14 mv2 112
def o71:=tS 334 ["year","month"]
def o72:=fY "last_of" 15
def o73:=cP "last_of" 331 31 2 3 114 336
def o74:=fP "last_of" 15 mv2 119
def o75:=tS 342 ["year","month","day"]
def o76:=fY "is_date" 16
def o77:=cP "is_date" 339 35 3 3 121 345
def o78:=fP "is_date" 16 mv2 126
def o79:=fY "day_of" 17
def o80:=co [(.str "day_of" 348),(.str "day_of" 349),(sf 350),(i 39),(i 3),(i 0),(i 0),(i 3),(r 128),(.bool true),(i 181),(r 129),.none,.none,.none,(r 130),(i 351),(i 39),(sf 352)]
def o81:=fP "day_of" 17 mv2 131
def o82:=tS 357 ["day","year"]
def o83:=fY "year_of" 18
def o84:=cP "year_of" 354 44 1 3 133 359
def o85:=fP "year_of" 18 mv2 138
def o86:=tS 365 ["day","year","month","rest"]
def o87:=fY "date_of" 19
def o88:=cP "date_of" 362 49 1 3 140 369
def o89:=fP "date_of" 19 mv2 145
def o90:=tS 375 ["day"]
def o91:=fY "weekday" 20
def o92:=cP "weekday" 372 57 1 3 147 376
def o93:=fP "weekday" 20 mv2 152
def o94:=fY "all_figures" 23
def o95:=co [(.str "all_figures" 383),(.str "all_figures" 384),(sf 385),(i 61),(i 1),(i 0),(i 0),(i 3),(r 154),(.bool true),(i 181),(r 155),.none,.none,.none,(r 156),(i 386),(i 61),(sf 387)]
def o96:=fn "all_figures" "all_figures" (tp 23) 3 [] .none .none .none (.str "fivefields.figures" 379) none (r 157) .none 0
def o97:=tS 392 ["text"]
def o98:=fY "is_written" 24
def o99:=cP "is_written" 389 63 1 3 159 393
def aGZ:=fn "is_written" "is_written" (tp 24) 3 [] .none .none .none (.str "fivefields.figures" 379) none (r 164) .none 0
def aN5:=tS 405 ["moment","time"]
def aP8:=fY "parted" 28
def aOJ:=cP "parted" 402 68 1 3 166 407
def aMO:=fn "parted" "parted" (tp 28) 3 [] .none .none .none (.str "fivefields.moments" 396) none (r 171) .none 0
def aHW:=tS 421 ["year","month","day","place"]
def aPJ:=fY "kind_from" 33
def aN1:=cP "kind_from" 418 75 3 3 173 425
def aKN:=fP "kind_from" 33 mv3 178
def aIH:=tS 431 ["year","month"]
def aIG:=fY "kind_of" 34
def aP6:=cP "kind_of" 428 78 2 3 180 433
def aHU:=fP "kind_of" 34 mv3 185
def aIU:=tS 439 ["kind","place","first"]
def aKI:=fY "month_at" 35
def aN4:=cP "month_at" 436 80 1 3 187 442
def aLA:=fP "month_at" 35 mv3 192
def aQN:=tS 448 ["year","month"]
def aPM:=fY "next_month" 36
def aN9:=cP "next_month" 445 86 2 3 194 450
def aIM:=fP "next_month" 36 mv3 199
def aNF:=tS 458 ["mask","number"]
def aNX:=fY "has" 38
def aMH:=cP "has" 455 91 2 3 201 460
def aP5:=fP "has" 38 mv4 206
def aJY:=tS 466 ["mask"]
def aQV:=fY "lowest" 39
def aMI:=cP "lowest" 463 93 1 3 208 467
def aGR:=fP "lowest" 39 mv4 213
def aLP:=fY "starts_of" 40
def aJ5:=co [(.str "starts_of" 470),(.str "starts_of" 471),(sf 472),(i 95),(i 1),(i 0),(i 0),(i 3),(r 215),(.bool true),(i 181),(r 216),.none,.none,.none,(r 217),(i 473),(i 95),(sf 474)]
def aQR:=fP "starts_of" 40 mv4 218
def aID:=tS 479 ["mask","start","end"]
def aLH:=fY "end_from" 41
def aP9:=cP "end_from" 476 98 2 3 220 482
def aPL:=fP "end_from" 41 mv4 225
def aHF:=fY "ranges_of" 42
def aLF:=co [(.str "ranges_of" 485),(.str "ranges_of" 486),(sf 487),(i 103),(i 1),(i 0),(i 0),(i 3),(r 227),(.bool true),(i 181),(r 228),.none,.none,.none,(r 229),(i 488),(i 103),(sf 489)]
def aNA:=fP "ranges_of" 42 mv4 230
def aMD:=tS 494 ["first","last"]
def aJ4:=fY "shown_range" 43
def aKM:=cP "shown_range" 491 105 2 3 232 496
def aPK:=fP "shown_range" 43 mv4 237
def aLT:=fY "shown_ranges" 44
def aG5:=co [(.str "shown_ranges" 499),(.str "shown_ranges" 500),(sf 501),(i 109),(i 1),(i 0),(i 0),(i 3),(r 239),(.bool true),(i 181),(r 240),.none,.none,.none,(r 241),(i 502),(i 109),(sf 503)]
def aM6:=fP "shown_ranges" 44 mv4 242
def aKE:=tS 507 ["month","day","hour","minute"]
def aGW:=tS 517 ["stretches","first","last","told"]
def aMX:=fY "add_stretch" 48
def aQQ:=cP "add_stretch" 514 114 4 3 245 521
def aPS:=fP "add_stretch" 48 mv5 250
def aNI:=tS 527 ["row","moment","word","parts","date","in_month"]
def aGF:=fY "field_shuts" 49
def aKZ:=cP "field_shuts" 524 119 3 3 252 533
def aI1:=fP "field_shuts" 49 mv5 257
def aN2:=tS 539 ["row","day","date","kind","later"]
def aMN:=fY "last_shut_day" 50
def aQO:=cP "last_shut_day" 536 130 2 3 259 544
def aGX:=fP "last_shut_day" 50 mv5 264
def aO5:=tS 550 ["row","moment","word"]
def aJG:=fY "shut_end" 51
def aKS:=cP "shut_end" 547 137 3 3 266 553
def aMU:=fP "shut_end" 51 mv5 271
def aKB:=tS 559 ["row","begin","end","stretches","moment","word","last"]
def aG7:=fY "paper_of" 52
def aM1:=cP "paper_of" 556 143 3 3 273 566
def aK5:=fP "paper_of" 52 mv5 278
def aL0:=tS 572 ["thing"]
def aKD:=fY "is_stretch" 53
def aPF:=cP "is_stretch" 569 152 1 3 280 573
def aMS:=fP "is_stretch" 53 mv5 285
def aJ8:=tS 579 ["begin","end","paper","due","word","thing"]
def aKU:=fY "goes_end_to_end" 54
def aJ2:=cP "goes_end_to_end" 576 158 3 3 287 585
def aH4:=fP "goes_end_to_end" 54 mv5 292
def aGV:=tS 591 ["row","first","last","word","moment"]
def aLV:=fY "is_shut" 55
def aJR:=cP "is_shut" 588 167 4 3 294 596
def aQH:=fP "is_shut" 55 mv5 299
def aGK:=fY "shuts" 56
def aI5:=co [(.str "shuts" 599),(.str "shuts" 600),(sf 601),(i 176),(i 4),(i 0),(i 0),(i 3),(r 301),(.bool true),(i 181),(r 302),.none,.none,.none,(r 303),(i 602),(i 176),(sf 603)]
def aLJ:=fP "shuts" 56 mv5 304
def aG9:=tS 612 ["days","minutes","place","times"]
def aJJ:=fY "minutes_on" 59
def aHP:=cP "minutes_on" 609 184 1 3 306 616
def aLG:=fP "minutes_on" 59 mv6 311
def aLO:=tS 622 ["known","on_days","kind"]
def aJS:=fY "minutes_by" 60
def aOW:=cP "minutes_by" 619 189 3 3 313 625
def aIX:=fP "minutes_by" 60 mv6 318
def aNB:=tS 631 ["moment","date"]
def aNV:=fY "month_of" 61
def aO7:=cP "month_of" 628 193 1 3 320 633
def aIN:=fP "month_of" 61 mv6 325
def aO8:=tS 639 ["on_days","moment","month","known","turn","start","passed","rest"]
def aQD:=fY "first_at" 62
def aPQ:=cP "first_at" 636 196 2 3 327 647
def aNH:=fP "first_at" 62 mv6 332
def aOM:=tS 653 ["row","moment","found"]
def aI9:=tS 656 ["row"]
def aIK:=fY "next_from" 63
def aL1:=cP "next_from" 650 207 2 3 334 657
def aNT:=fP "next_from" 63 mv6 339
def aLS:=tS 671 ["numbers","mask","number"]
def aMR:=fY "mask_of" 68
def aOY:=cP "mask_of" 668 216 1 3 341 674
def aP2:=fP "mask_of" 68 mv7 346
def aL5:=fY "numbers_in" 69
def aP7:=co [(.str "numbers_in" 677),(.str "numbers_in" 678),(sf 679),(i 221),(i 1),(i 0),(i 0),(i 3),(r 348),(.bool true),(i 181),(r 349),.none,.none,.none,(r 350),(i 680),(i 221),(sf 681)]
def aOF:=fP "numbers_in" 69 mv7 351
def aP4:=tS 686 ["first","last","stride"]
def aO9:=fY "run_mask" 70
def aI4:=cP "run_mask" 683 223 3 3 353 689
def aPB:=fP "run_mask" 70 mv7 358
def aLE:=tS 695 ["text","low","high","number"]
def aK2:=fY "read_number" 71
def aI8:=cP "read_number" 692 225 3 3 360 699
def aJX:=fP "read_number" 71 mv7 365
def aHO:=fY "read_run" 72
def aHB:=co [(.str "read_run" 702),(.str "read_run" 703),(sf 704),(i 232),(i 3),(i 0),(i 0),(i 3),(r 367),(.bool true),(i 181),(r 368),.none,.none,.none,(r 369),(i 705),(i 232),(sf 706)]
def aQJ:=fP "read_run" 72 mv7 370
def aQM:=tS 711 ["run_text","stride_text","low","high","run","stride","last"]
def aO1:=fY "read_strided" 73
def aH3:=cP "read_strided" 708 239 4 3 372 718
def aOV:=fP "read_strided" 73 mv7 377
def aM9:=tS 724 ["item","low","high","parts","run"]
def aP1:=fY "read_item" 74
def aJ9:=cP "read_item" 721 246 3 3 379 729
def aI6:=fP "read_item" 74 mv7 384
def aKK:=tS 735 ["text","low","high","items","mask","place","item","told"]
def aIJ:=fY "read_field" 75
def aKO:=cP "read_field" 732 254 3 3 386 743
def aJM:=fP "read_field" 75 mv7 391
def aPY:=tS 767 ["day","first"]
def aMF:=fY "weekday_at" 85
def aNJ:=cP "weekday_at" 764 276 2 3 393 769
def aQP:=fP "weekday_at" 85 mv0 398
def aLR:=tS 775 ["last"]
def aGH:=fY "all_days" 86
def aIT:=cP "all_days" 772 278 1 3 400 776
def aLX:=fP "all_days" 86 mv0 405
def aQA:=tS 782 ["day","last","first","of_week"]
def aH8:=fY "nearest_work" 87
def aJW:=cP "nearest_work" 779 280 3 3 407 786
def aPC:=fP "nearest_work" 87 mv0 412
def aMW:=tS 792 ["weekday","first"]
def aHN:=fY "first_one" 88
def aLI:=cP "first_one" 789 287 2 3 414 794
def aOR:=fP "first_one" 88 mv0 419
def aIP(P:Params):=di [de P "__module__" 804 mv0,de P "__qualname__" 806 (.str "Mark" 805),de P "__firstlineno__" 808 (.int 289 807),dr P "days" 817 434,dr P "told" 824 441,dr P "__static_attributes__" 825 442] 6
def aGI:=fD 4 [(291,433),(294,440)]
def aOG:=cK "Mark" "Mark" 799 289 424 802
def aOO:=fr 426 423 mv0
def aON:=tS 812 ["self","last","first"]
def aQE:=fz "days" "Mark.days" (ib (tp 89) 0)
def aHE:=cO "days" "Mark.days" 809 291 3 3 428 815
def aH5:=fQ "days" "Mark.days" (ib (tp 89) 0) mv0 433
def aGE:=tS 821 ["self"]
def aJH:=fz "told" "Mark.told" (ib (tp 89) 1)
def aIW:=cO "told" "Mark.told" 818 294 1 3 435 822
def aQG:=fQ "told" "Mark.told" (ib (tp 89) 1) mv0 440
def aIL(P:Params):=di [de P "__module__" 804 mv0,de P "__firstlineno__" 808 (.int 289 807),dr P "days" 817 434,dr P "told" 824 441,dr P "__static_attributes__" 825 442,dr P "__dict__" 827 445,dr P "__weakref__" 829 446,de P "__doc__" 830 .none] 4
def o262:Obj:=⟨(.type "type"),none,(.cls ⟨"Mark",[(.type "object")],[(r 444),(.type "object")],443,"Mark",true,[],[(r 479),(r 513),(r 546),(r 572),(r 605),(r 638)],false,none,false⟩),#[none,none,(some (.str "Mark" 797)),(some (.str "Mark" 805)),(some (.builtin "object.__new__")),(some (.bool true))]⟩
def aKP:Obj:=⟨(.type "getset_descriptor"),none,(.fields #[(.str "__dict__" 826),(r 444),(.builtin "function.__dict__"),(.builtin "function.__dict__#set")]),#[]⟩
def aKJ:Obj:=⟨(.type "getset_descriptor"),none,(.fields #[(.str "__weakref__" 828),(r 444),(.builtin "ExceptionGroup.__weakref__"),.none]),#[]⟩
def aMQ:=su 444 444 444
def aLK:=bm "object.__init_subclass__" (r 444)
def ahQ:=tu [(r 444)]
def aM5(P:Params):=di [de P "__module__" 840 mv0,de P "__qualname__" 842 (.str "Numbers" 841),de P "__firstlineno__" 844 (.int 296 843),dr P "__init__" 852 462,dr P "days" 861 469,dr P "told" 868 476,dr P "__static_attributes__" 870 477] 7
def aHM:=fD 4 [(298,461),(301,468),(304,475)]
def aM4:=cK "Numbers" "Numbers" 835 296 452 838
def aJL:=fr 454 451 mv0
def aOE:=tS 848 ["self","mask"]
def aIQ:=fz "__init__" "Numbers.__init__" (ib (tp 90) 0)
def aPN:=cO "__init__" "Numbers.__init__" 845 298 2 3 456 850
def aGD:=fQ "__init__" "Numbers.__init__" (ib (tp 90) 0) mv0 461
def aG4:=tS 856 ["self","last","first"]
def aKT:=fz "days" "Numbers.days" (ib (tp 90) 1)
def aPI:=cO "days" "Numbers.days" 853 301 3 3 463 859
def aJB:=fQ "days" "Numbers.days" (ib (tp 90) 1) mv0 468
def aLQ:=tS 865 ["self"]
def aMA:=fz "told" "Numbers.told" (ib (tp 90) 2)
def aM7:=cO "told" "Numbers.told" 862 304 1 3 470 866
def aLD:=fQ "told" "Numbers.told" (ib (tp 90) 2) mv0 475
def aM3:=tS 869 ["mask"]
def aLC(P:Params):=di [de P "__module__" 840 mv0,de P "__firstlineno__" 844 (.int 296 843),dr P "__init__" 852 462,dr P "days" 861 469,dr P "told" 868 476,dr P "__static_attributes__" 870 477,de P "__doc__" 871 .none] 2
def aHQ:Obj:=⟨(.type "type"),none,(.cls ⟨"Numbers",[(r 444)],[(r 479),(r 444),(.type "object")],478,"Numbers",true,[],[],false,none,false⟩),#[(some (r 449)),none,(some (.str "Numbers" 833)),(some (.str "Numbers" 841)),(some (.builtin "object.__new__")),(some (.bool true))]⟩
def aG6:=su 479 479 479
def aGU:=bm "object.__init_subclass__" (r 479)
def aLB(P:Params):=di [de P "__module__" 881 mv0,de P "__qualname__" 883 (.str "Last" 882),de P "__firstlineno__" 885 (.int 306 884),dr P "__init__" 894 496,dr P "days" 903 503,dr P "told" 910 510,dr P "__static_attributes__" 912 511] 7
def aIS:=fD 4 [(308,495),(311,502),(316,509)]
def aL4:=cK "Last" "Last" 876 306 485 879
def aHJ:=fr 487 484 mv0
def aJE:=tu [(.int 0 886)]
def aHR:=tS 890 ["self","back"]
def aOZ:=fz "__init__" "Last.__init__" (ib (tp 91) 0)
def aMP:=cO "__init__" "Last.__init__" 887 308 2 3 490 892
def aJF:=fn "__init__" "Last.__init__" (ib (tp 91) 0) 3 [] (r 489) .none .none mv0 none (r 495) .none 0
def aME:=tS 898 ["self","last","first"]
def aGC:=fT "days" "Last.days" (ib (tp 91) 1) (ib (tp 89) 0)
def aJK:=cO "days" "Last.days" 895 311 3 3 497 901
def aNZ:=fS "days" "Last.days" (ib (tp 91) 1) (ib (tp 89) 0) mv0 502
def aNC:=tS 907 ["self"]
def aMZ:=fz "told" "Last.told" (ib (tp 91) 2)
def aMB:=cO "told" "Last.told" 904 316 1 3 504 908
def aNL:=fQ "told" "Last.told" (ib (tp 91) 2) mv0 509
def aK7:=tS 911 ["back"]
def aPT(P:Params):=di [de P "__module__" 881 mv0,de P "__firstlineno__" 885 (.int 306 884),dr P "__init__" 894 496,dr P "days" 903 503,dr P "told" 910 510,dr P "__static_attributes__" 912 511,de P "__doc__" 913 .none] 2
def aPO:Obj:=⟨(.type "type"),none,(.cls ⟨"Last",[(r 444)],[(r 513),(r 444),(.type "object")],512,"Last",true,[],[],false,none,false⟩),#[(some (r 482)),none,(some (.str "Last" 874)),(some (.str "Last" 882)),(some (.builtin "object.__new__")),(some (.bool true))]⟩
def aNY:=su 513 513 513
def aNU:=bm "object.__init_subclass__" (r 513)
def aQK(P:Params):=di [de P "__module__" 923 mv0,de P "__qualname__" 925 (.str "Near" 924),de P "__firstlineno__" 927 (.int 320 926),dr P "__init__" 935 529,dr P "days" 944 536,dr P "told" 951 543,dr P "__static_attributes__" 953 544] 7
def aNK:=fD 4 [(322,528),(325,535),(330,542)]
def aKY:=cK "Near" "Near" 918 320 519 921
def aL8:=fr 521 518 mv0
def aPE:=tS 931 ["self","day"]
def aN7:=fz "__init__" "Near.__init__" (ib (tp 92) 0)
def aGJ:=cO "__init__" "Near.__init__" 928 322 2 3 523 933
def aLZ:=fQ "__init__" "Near.__init__" (ib (tp 92) 0) mv0 528
def aMC:=tS 939 ["self","last","first"]
def aL2:=fz "days" "Near.days" (ib (tp 92) 1)
def aGS:=cO "days" "Near.days" 936 325 3 3 530 942
def aPV:=fQ "days" "Near.days" (ib (tp 92) 1) mv0 535
def aKF:=tS 948 ["self"]
def aNQ:=fT "told" "Near.told" (ib (tp 92) 2) (ib (tp 91) 2)
def aG1:=cO "told" "Near.told" 945 330 1 3 537 949
def aL9:=fS "told" "Near.told" (ib (tp 92) 2) (ib (tp 91) 2) mv0 542
def aGY:=tS 952 ["day"]
def aOB(P:Params):=di [de P "__module__" 923 mv0,de P "__firstlineno__" 927 (.int 320 926),dr P "__init__" 935 529,dr P "days" 944 536,dr P "told" 951 543,dr P "__static_attributes__" 953 544,de P "__doc__" 954 .none] 2
def aLM:Obj:=⟨(.type "type"),none,(.cls ⟨"Near",[(r 444)],[(r 546),(r 444),(.type "object")],545,"Near",true,[],[],false,none,false⟩),#[(some (r 516)),none,(some (.str "Near" 916)),(some (.str "Near" 924)),(some (.builtin "object.__new__")),(some (.bool true))]⟩
def aOP:=su 546 546 546
def aH6:=bm "object.__init_subclass__" (r 546)
def aII(P:Params):=di [de P "__module__" 964 mv0,de P "__qualname__" 966 (.str "LastWork" 965),de P "__firstlineno__" 968 (.int 332 967),dr P "days" 977 562,dr P "told" 984 569,dr P "__static_attributes__" 985 570] 6
def aP0:=fD 4 [(334,561),(337,568)]
def aLY:=cK "LastWork" "LastWork" 959 332 552 962
def aGL:=fr 554 551 mv0
def aNR:=tS 972 ["self","last","first"]
def aK3:=fT "days" "LastWork.days" (ib (tp 93) 0) (ib (tp 92) 1)
def aG3:=cO "days" "LastWork.days" 969 334 3 3 556 975
def aM8:=fS "days" "LastWork.days" (ib (tp 93) 0) (ib (tp 92) 1) mv0 561
def aNM:=tS 981 ["self"]
def aKC:=fT "told" "LastWork.told" (ib (tp 93) 1) (ib (tp 89) 1)
def aHV:=cO "told" "LastWork.told" 978 337 1 3 563 982
def aPH:=fS "told" "LastWork.told" (ib (tp 93) 1) (ib (tp 89) 1) mv0 568
def aHT(P:Params):=di [de P "__module__" 964 mv0,de P "__firstlineno__" 968 (.int 332 967),dr P "days" 977 562,dr P "told" 984 569,dr P "__static_attributes__" 985 570,de P "__doc__" 986 .none] 2
def aGM:Obj:=⟨(.type "type"),none,(.cls ⟨"LastWork",[(r 444)],[(r 572),(r 444),(.type "object")],571,"LastWork",true,[],[],false,none,false⟩),#[(some (r 549)),none,(some (.str "LastWork" 957)),(some (.str "LastWork" 965)),(some (.builtin "object.__new__")),(some (.bool true))]⟩
def aNP:=su 572 572 572
def aN3:=bm "object.__init_subclass__" (r 572)
def aKW(P:Params):=di [de P "__module__" 996 mv0,de P "__qualname__" 998 (.str "Weekdays" 997),de P "__firstlineno__" 1000 (.int 339 999),dr P "__init__" 1008 588,dr P "days" 1019 595,dr P "told" 1026 602,dr P "__static_attributes__" 1028 603] 7
def aQU:=fD 4 [(341,587),(344,594),(350,601)]
def aN0:=cK "Weekdays" "Weekdays" 991 339 578 994
def aL6:=fr 580 577 mv0
def aJC:=tS 1004 ["self","mask"]
def aK0:=fT "__init__" "Weekdays.__init__" (ib (tp 94) 0) (ib (tp 90) 0)
def aJD:=cO "__init__" "Weekdays.__init__" 1001 341 2 3 582 1006
def aIB:=fS "__init__" "Weekdays.__init__" (ib (tp 94) 0) (ib (tp 90) 0) mv0 587
def aQL:=tS 1012 ["self","last","first","weeks","week"]
def aQC:=fz "days" "Weekdays.days" (ib (tp 94) 1)
def aOA:=cO "days" "Weekdays.days" 1009 344 3 3 589 1017
def aO2:=fQ "days" "Weekdays.days" (ib (tp 94) 1) mv0 594
def aJV:=tS 1023 ["self"]
def aNN:=fT "told" "Weekdays.told" (ib (tp 94) 2) (ib (tp 90) 2)
def aO4:=cO "told" "Weekdays.told" 1020 350 1 3 596 1024
def aO0:=fS "told" "Weekdays.told" (ib (tp 94) 2) (ib (tp 90) 2) mv0 601
def aK8:=tS 1027 ["mask"]
def aML(P:Params):=di [de P "__module__" 996 mv0,de P "__firstlineno__" 1000 (.int 339 999),dr P "__init__" 1008 588,dr P "days" 1019 595,dr P "told" 1026 602,dr P "__static_attributes__" 1028 603,de P "__doc__" 1029 .none] 2
def aKA:Obj:=⟨(.type "type"),none,(.cls ⟨"Weekdays",[(r 444)],[(r 605),(r 444),(.type "object")],604,"Weekdays",true,[],[],false,none,false⟩),#[(some (r 575)),none,(some (.str "Weekdays" 989)),(some (.str "Weekdays" 997)),(some (.builtin "object.__new__")),(some (.bool true))]⟩
def aJZ:=su 605 605 605
def aHZ:=bm "object.__init_subclass__" (r 605)
def aLW(P:Params):=di [de P "__module__" 1039 mv0,de P "__qualname__" 1041 (.str "Nth" 1040),de P "__firstlineno__" 1043 (.int 352 1042),dr P "__init__" 1052 621,dr P "days" 1062 628,dr P "told" 1069 635,dr P "__static_attributes__" 1072 636] 7
def aHY:=fD 4 [(354,620),(358,627),(364,634)]
def aQT:=cK "Nth" "Nth" 1034 352 611 1037
def aPW:=fr 613 610 mv0
def aOI:=tS 1047 ["self","weekday","many"]
def aL3:=fz "__init__" "Nth.__init__" (ib (tp 95) 0)
def aMY:=cO "__init__" "Nth.__init__" 1044 354 3 3 615 1050
def aGN:=fQ "__init__" "Nth.__init__" (ib (tp 95) 0) mv0 620
def aGG:=tS 1056 ["self","last","first","day"]
def aOQ:=fz "days" "Nth.days" (ib (tp 95) 1)
def aIY:=cO "days" "Nth.days" 1053 358 3 3 622 1060
def aOL:=fQ "days" "Nth.days" (ib (tp 95) 1) mv0 627
def aN8:=tS 1066 ["self"]
def aJQ:=fT "told" "Nth.told" (ib (tp 95) 2) (ib (tp 91) 2)
def aJU:=cO "told" "Nth.told" 1063 364 1 3 629 1067
def aKX:=fS "told" "Nth.told" (ib (tp 95) 2) (ib (tp 91) 2) mv0 634
def aHC:=tS 1070 ["many","weekday"]
def aIR(P:Params):=di [de P "__module__" 1039 mv0,de P "__firstlineno__" 1043 (.int 352 1042),dr P "__init__" 1052 621,dr P "days" 1062 628,dr P "told" 1069 635,dr P "__static_attributes__" 1072 636,de P "__doc__" 1073 .none] 2
def aN6:Obj:=⟨(.type "type"),none,(.cls ⟨"Nth",[(r 444)],[(r 638),(r 444),(.type "object")],637,"Nth",true,[],[],false,none,false⟩),#[(some (r 608)),none,(some (.str "Nth" 1032)),(some (.str "Nth" 1040)),(some (.builtin "object.__new__")),(some (.bool true))]⟩
def aJO:=su 638 638 638
def aM0:=bm "object.__init_subclass__" (r 638)
def t1(P:Params):BT:=brn 11 [(boot_o_0 P),(boot_o_1 P),(boot_o_2 P),(o4 P),(boot_o_4 P),(boot_o_5 P),(boot_o_6 P),(boot_o_7 P),(boot_o_8 P),(boot_o_9 P),(boot_o_10 P),o0,o5,o2,o3,o0,o1,o6,o0,o7,o8,o9,o10,o11,(o12 P),o0,o1,o13,o14,o0,(o15 P),o16,o17,o18,o19,o20,o11,(o21 P),o0,o1,o22,o23,o0,(o24 P),o25,o26,o27,o20,o11,(o28 P),o0,o29,o30,o31,o0,o1,o32,o0,o33,o34,o35,o36,(o37 P),o38,o39,o40,o20,o11,(o41 P),o0,o42,o43,o44,o0,o1,o45,o0,o46,o47,o48,o49,(o50 P),o51,o52,o53,o0,o1,o54,o0,o55,o56,o57,o58,o0,o1,o59,o0,o60,o61,o62,o0,o1,o63,o0,o64,o65,o66,o0,o1,o67,o0,o68,o69,o70,o0,o1,o71,o0,o72,o73,o74,o0,o1,o75,o0,o76,o77,o78,o0,o1,o79,o80,o81,o0,o1,o82,o0,o83,o84,o85,o0,o1,o86,o0,o87,o88,o89,o0,o1,o90,o0,o91,o92,o93,o0,o1,o94,o95,o96,o0,o1,o97,o0,o98,o99,aGZ,o0,o1,aN5,o0,aP8,aOJ,aMO,o0,o1,aHW,o0,aPJ,aN1,aKN,o0,o1,aIH,o0,aIG,aP6,aHU,o0,o1,aIU,o0,aKI,aN4,aLA,o0,o1,aQN,o0,aPM,aN9,aIM,o0,o1,aNF,o0,aNX,aMH,aP5,o0,o1,aJY,o0,aQV,aMI,aGR,o0,o1,aLP,aJ5,aQR,o0,o1,aID,o0,aLH,aP9,aPL,o0,o1,aHF,aLF,aNA,o0,o1,aMD,o0,aJ4,aKM,aPK,o0,o1,aLT,aG5,aM6,aKE,o0,o1,aGW,o0,aMX,aQQ,aPS,o0,o1,aNI,o0,aGF,aKZ,aI1,o0,o1,aN2,o0,aMN,aQO,aGX,o0,o1,aO5,o0,aJG,aKS,aMU,o0,o1,aKB,o0,aG7,aM1,aK5,o0,o1,aL0,o0,aKD,aPF,aMS,o0,o1,aJ8,o0,aKU,aJ2,aH4,o0,o1,aGV,o0,aLV,aJR,aQH,o0,o1,aGK,aI5,aLJ,o0,o1,aG9,o0,aJJ,aHP,aLG,o0,o1,aLO,o0,aJS,aOW,aIX,o0,o1,aNB,o0,aNV,aO7,aIN,o0,o1,aO8,o0,aQD,aPQ,aNH,o0,o1,aOM,aI9,aIK,aL1,aNT,o0,o1,aLS,o0,aMR,aOY,aP2,o0,o1,aL5,aP7,aOF,o0,o1,aP4,o0,aO9,aI4,aPB,o0,o1,aLE,o0,aK2,aI8,aJX,o0,o1,aHO,aHB,aQJ,o0,o1,aQM,o0,aO1,aH3,aOV,o0,o1,aM9,o0,aP1,aJ9,aI6,o0,o1,aKK,o0,aIJ,aKO,aJM,o0,o1,aPY,o0,aMF,aNJ,aQP,o0,o1,aLR,o0,aGH,aIT,aLX,o0,o1,aQA,o0,aH8,aJW,aPC,o0,o1,aMW,o0,aHN,aLI,aOR,o0,o11,(aIP P),o0,aGI,aOG,aOO,o0,o1,aON,o0,aQE,aHE,aH5,o0,o1,aGE,o0,aJH,aIW,aQG,o0,(aIL P),o262,aKP,aKJ,aMQ,aLK,ahQ,o11,(aM5 P),o0,aHM,aM4,aJL,o0,o1,aOE,o0,aIQ,aPN,aGD,o0,o1,aG4,o0,aKT,aPI,aJB,o0,o1,aLQ,o0,aMA,aM7,aLD,aM3,(aLC P),aHQ,aG6,aGU,ahQ,o11,(aLB P),o0,aIS,aL4,aHJ,aJE,o0,o1,aHR,o0,aOZ,aMP,aJF,o0,o1,aME,o0,aGC,aJK,aNZ,o0,o1,aNC,o0,aMZ,aMB,aNL,aK7,(aPT P),aPO,aNY,aNU,ahQ,o11,(aQK P),o0,aNK,aKY,aL8,o0,o1,aPE,o0,aN7,aGJ,aLZ,o0,o1,aMC,o0,aL2,aGS,aPV,o0,o1,aKF,o0,aNQ,aG1,aL9,aGY,(aOB P),aLM,aOP,aH6,ahQ,o11,(aII P),o0,aP0,aLY,aGL,o0,o1,aNR,o0,aK3,aG3,aM8,o0,o1,aNM,o0,aKC,aHV,aPH,o0,(aHT P),aGM,aNP,aN3,ahQ,o11,(aKW P),o0,aQU,aN0,aL6,o0,o1,aJC,o0,aK0,aJD,aIB,o0,o1,aQL,o0,aQC,aOA,aO2,o0,o1,aJV,o0,aNN,aO4,aO0,aK8,(aML P),aKA,aJZ,aHZ,ahQ,o11,(aLW P),o0,aHY,aQT,aPW,o0,o1,aOI,o0,aL3,aMY,aGN,o0,o1,aGG,o0,aOQ,aIY,aOL,o0,o1,aN8,o0,aJQ,aJU,aKX,aHC,(aIR P),aN6,aJO,aM0]
def s1(w:World)(os:OsState):SharedT:=⟨t1 w.params,641,⟨[],[],[],0,[],[],false,#[],[],0,false,false,false,0,[2000,10,10],false,0,true,[],[],0,false⟩,#[],⟨0,0,0,0⟩,1076,os⟩
def l0:List Stmt:=(bi.drop 0).take 96
theorem r0(w:World)(os:OsState):
  segRunT treeTable pw w 11 an 1 4845 (s0 w os) (piecesOf l0 ev cd ⟨0,0,0,0⟩ bk) =
  some (.next,s1 w os,cd,⟨352,0,365,55⟩):=by kernel_rfl
def o390(P:Params):=di [de P "__name__" 165 mv8,de P "__doc__" 166 .none,de P "__package__" 167 .none,de P "__loader__" 168 (.builtin "__main__.__loader__#opaque"),de P "__spec__" 169 .none,dr P "__annotations__" 170 6,dr P "__builtins__" 171 4,de P "__file__" 173 (sf 172),de P "__cached__" 174 .none,dr P "_wall" 193 21,dr P "FieldError" 213 31,dr P "NoDay" 229 44,dr P "NoField" 254 63,dr P "NoRow" 279 82,dr P "is_whole" 288 91,dr P "MONTH_LASTS" 303 92,de P "ROUND_YEARS" 305 (.int 400 304),de P "ROUND_DAYS" 307 (.int 146097 306),dr P "is_long" 314 99,dr P "multiples_before" 322 106,dr P "days_before" 330 113,dr P "last_of" 338 120,dr P "is_date" 347 127,dr P "day_of" 353 132,dr P "year_of" 361 139,dr P "date_of" 371 146,dr P "weekday" 378 153,de P "FIGURES" 382 (.str "0123456789" 381),dr P "all_figures" 388 158,dr P "is_written" 395 165,de P "DAY_MINUTES" 399 (.int 1440 398),de P "HOUR_MINUTES" 401 (.int 60 400),dr P "parted" 409 172,de P "LONG_PLACE" 413 (.int 12 412),de P "LONG_LAST" 415 (.int 29 414),de P "SHORT_YEAR" 417 (.int 1 416),dr P "kind_from" 427 179,dr P "kind_of" 435 186,dr P "month_at" 444 193,dr P "next_month" 452 200,dr P "has" 462 207,dr P "lowest" 469 214,dr P "starts_of" 475 219,dr P "end_from" 484 226,dr P "ranges_of" 490 231,dr P "shown_range" 498 238,dr P "shown_ranges" 504 243,dr P "WORDS" 511 244,de P "MOST_DAYS" 513 (.int 400 512),dr P "add_stretch" 523 251,dr P "field_shuts" 535 258,dr P "last_shut_day" 546 265,dr P "shut_end" 555 272,dr P "paper_of" 568 279,dr P "is_stretch" 575 286,dr P "goes_end_to_end" 587 293,dr P "is_shut" 598 300,dr P "shuts" 604 305,de P "MOST_MONTHS" 608 (.int 492 607),dr P "minutes_on" 618 312,dr P "minutes_by" 627 319,dr P "month_of" 635 326,dr P "first_at" 649 333,dr P "next_from" 659 340,de P "MOST_SIGNS" 663 (.int 300 662),de P "MOST_ITEMS" 665 (.int 40 664),de P "MOST_STRIDE" 667 (.int 99 666),dr P "mask_of" 676 347,dr P "numbers_in" 682 352,dr P "run_mask" 691 359,dr P "read_number" 701 366,dr P "read_run" 707 371,dr P "read_strided" 720 378,dr P "read_item" 731 385,dr P "read_field" 745 392,de P "MOST_MARKS" 749 (.int 20 748),de P "MOST_DAY" 751 (.int 31 750),de P "MOST_BACK" 753 (.int 30 752),de P "MOST_NTH" 755 (.int 5 754),de P "SUNDAY" 757 (.int 0 756),de P "SATURDAY" 759 (.int 6 758),de P "SUNDAY_TOO" 761 (.int 7 760),de P "ALL_WEEKDAYS" 763 (.int 127 762),dr P "weekday_at" 771 399,dr P "all_days" 778 406,dr P "nearest_work" 788 413,dr P "first_one" 796 420,dr P "Mark" 832 444,dr P "Numbers" 873 479,dr P "Last" 915 513,dr P "Near" 956 546,dr P "LastWork" 988 572,dr P "Weekdays" 1031 605,dr P "Nth" 1075 638,dr P "LastOne" 1116 671,dr P "any_days" 1127 680,dr P "read_day_mark" 1136 687,dr P "read_weekday" 1144 694,dr P "read_weekday_mark" 1154 701,dr P "read_items" 1171 708,dr P "read_days" 1179 715,dr P "read_weekdays" 1188 722,de P "MOST_ROW_SIGNS" 1192 (.int 1600 1191),de P "MINUTE" 1194 (.int 0 1193),de P "HOUR" 1196 (.int 1 1195),de P "DAY" 1198 (.int 2 1197),de P "MONTH" 1200 (.int 3 1199),de P "WEEKDAY" 1202 (.int 4 1201),de P "NO_PLACE" 1204 (.int 5 1203),dr P "BOUNDS" 1217 723,dr P "times_of" 1227 733,dr P "days_by" 1239 740,dr P "Row" 1341 818,dr P "read_word" 1350 829,dr P "read_at" 1358 836,dr P "read_row" 1364 841,dr P "_law_cell_at" 1374 848,dr P "_law_stir" 1383 855,dr P "_law_digits" 1394 862,dr P "_law_item" 1407 869,dr P "_law_numbers" 1424 876,dr P "_law_days" 1444 883,dr P "_law_weekdays" 1450 888,dr P "_law_spec" 1465 895,dr P "_law_start" 1472 902,dr P "_law_moment" 1483 909,dr P "_law_odd" 1494 916,dr P "_law_asked" 1507 923,dr P "_law_truths" 1517 930,dr P "_law_right" 1540 937,dr P "law" 1546 942] 131
def o391:=fD 0 [(1,20),(5,27),(7,40),(9,52),(13,71),(18,90),(24,98),(26,105),(28,112),(31,119),(35,126),(39,131),(44,138),(49,145),(57,152),(61,157),(63,164),(68,171),(75,178),(78,185),(80,192),(86,199),(91,206),(93,213),(95,218),(98,225),(103,230),(105,237),(109,242),(114,250),(119,257),(130,264),(137,271),(143,278),(152,285),(158,292),(167,299),(176,304),(184,311),(189,318),(193,325),(196,332),(207,339),(216,346),(221,351),(223,358),(225,365),(232,370),(239,377),(246,384),(254,391),(276,398),(278,405),(280,412),(287,419),(289,426),(296,454),(306,487),(320,521),(332,554),(339,580),(352,613),(366,646),(376,679),(381,686),(393,693),(396,700),(408,707),(426,714),(433,721),(450,732),(455,739),(463,746),(514,828),(521,835),(526,840),(534,847),(538,854),(542,861),(553,868),(569,875),(579,882),(600,887),(617,894),(633,901),(635,908),(642,915),(648,922),(652,929),(658,936),(680,941)]
def o392:Obj:=⟨(.type "type"),none,(.cls ⟨"Mark",[(.type "object")],[(r 444),(.type "object")],443,"Mark",true,[],[(r 479),(r 513),(r 546),(r 572),(r 605),(r 638),(r 671)],false,none,false⟩),#[none,none,(some (.str "Mark" 797)),(some (.str "Mark" 805)),(some (.builtin "object.__new__")),(some (.bool true))]⟩
def o393(P:Params):=di [de P "__module__" 1083 mv0,de P "__qualname__" 1085 (.str "LastOne" 1084),de P "__firstlineno__" 1087 (.int 366 1086),dr P "__init__" 1095 654,dr P "days" 1104 661,dr P "told" 1111 668,dr P "__static_attributes__" 1113 669] 7
def o394:=fD 4 [(368,653),(371,660),(374,667)]
def o395:=cK "LastOne" "LastOne" 1078 366 644 1081
def o396:=fr 646 643 mv0
def o397:=tS 1091 ["self","weekday"]
def o398:=fz "__init__" "LastOne.__init__" (ib (tp 96) 0)
def o399:=cO "__init__" "LastOne.__init__" 1088 368 2 3 648 1093
def o400:=fQ "__init__" "LastOne.__init__" (ib (tp 96) 0) mv0 653
def o401:=tS 1099 ["self","last","first"]
def o402:=fz "days" "LastOne.days" (ib (tp 96) 1)
def o403:=cO "days" "LastOne.days" 1096 371 3 3 655 1102
def o404:=fQ "days" "LastOne.days" (ib (tp 96) 1) mv0 660
def o405:=tS 1108 ["self"]
def o406:=fT "told" "LastOne.told" (ib (tp 96) 2) (ib (tp 91) 2)
def o407:=cO "told" "LastOne.told" 1105 374 1 3 662 1109
def o408:=fS "told" "LastOne.told" (ib (tp 96) 2) (ib (tp 91) 2) mv0 667
def o409:=tS 1112 ["weekday"]
def o410(P:Params):=di [de P "__module__" 1083 mv0,de P "__firstlineno__" 1087 (.int 366 1086),dr P "__init__" 1095 654,dr P "days" 1104 661,dr P "told" 1111 668,dr P "__static_attributes__" 1113 669,de P "__doc__" 1114 .none] 2
def o411:Obj:=⟨(.type "type"),none,(.cls ⟨"LastOne",[(r 444)],[(r 671),(r 444),(.type "object")],670,"LastOne",true,[],[],false,none,false⟩),#[(some (r 641)),none,(some (.str "LastOne" 1076)),(some (.str "LastOne" 1084)),(some (.builtin "object.__new__")),(some (.bool true))]⟩
def o412:=su 671 671 671
def o413:=bm "object.__init_subclass__" (r 671)
def o414:=tS 1120 ["marks","last","first","mask","mark"]
def o415:=fY "any_days" 97
def o416:=cP "any_days" 1117 376 3 3 674 1125
def o417:=fP "any_days" 97 mv0 679
def o418:=tS 1131 ["item","back","day"]
def o419:=fY "read_day_mark" 98
def o420:=cP "read_day_mark" 1128 381 1 3 681 1134
def o421:=fP "read_day_mark" 98 mv0 686
def o422:=tS 1140 ["text","number"]
def o423:=fY "read_weekday" 99
def o424:=cP "read_weekday" 1137 393 1 3 688 1142
def o425:=fP "read_weekday" 99 mv0 693
def o426:=tS 1148 ["item","weekday","parts","many"]
def o427:=fY "read_weekday_mark" 100
def o428:=cP "read_weekday_mark" 1145 396 1 3 695 1152
def o429:=fP "read_weekday_mark" 100 mv0 700
def o430:=tS 1158 ["text","low","high","read_mark","items","mask","marks","place","item","plain","mark"]
def o431:=fY "read_items" 101
def o432:=cP "read_items" 1155 408 4 3 702 1169
def o433:=fP "read_items" 101 mv0 707
def o434:=tS 1175 ["text","read"]
def o435:=fY "read_days" 102
def o436:=cP "read_days" 1172 426 1 3 709 1177
def o437:=fP "read_days" 102 mv0 714
def o438:=tS 1183 ["text","read","mask"]
def o439:=fY "read_weekdays" 103
def o440:=cP "read_weekdays" 1180 433 1 3 716 1186
def o441:=fP "read_weekdays" 103 mv0 721
def o442:=di [⟨0,(.int 0 1205),(r 724)⟩,⟨1,(.int 1 1208),(r 725)⟩,⟨3,(.int 3 1211),(r 726)⟩] 3
def o443:=tu [(.int 0 1206),(.int 59 1207)]
def o444:=tu [(.int 0 1209),(.int 23 1210)]
def o445:=tu [(.int 1 1212),(.int 12 1213)]
def o446:=tS 1221 ["hours","minutes","times","hour"]
def o447:=fY "times_of" 113
def o448:=cP "times_of" 1218 450 2 3 727 1225
def o449:=fP "times_of" 113 mv9 732
def o450:=tS 1231 ["days","weekdays","last","first","mask","marks"]
def o451:=fY "days_by" 114
def o452:=cP "days_by" 1228 455 4 3 734 1237
def o453:=fP "days_by" 114 mv9 739
def o454(P:Params):=di [de P "__module__" 1247 mv9,de P "__qualname__" 1249 (.str "Row" 1248),de P "__firstlineno__" 1251 (.int 463 1250),dr P "__init__" 1259 754,dr P "minutes" 1266 761,dr P "hours" 1273 768,dr P "months" 1280 775,dr P "times" 1287 782,dr P "days_in" 1296 789,dr P "on_days" 1302 794,dr P "holds" 1310 801,dr P "shut_by" 1320 808,dr P "shown" 1327 815,dr P "__static_attributes__" 1334 816] 14
def o455:=fD 4 [(465,753),(473,760),(476,767),(479,774),(482,781),(485,788),(491,793),(496,800),(499,807),(512,814)]
def o456:=cK "Row" "Row" 1242 463 744 1245
def o457:=fr 746 743 mv9
def o458:=tS 1255 ["self","fields"]
def o459:=fz "__init__" "Row.__init__" (ib (tp 115) 0)
def o460:=cO "__init__" "Row.__init__" 1252 465 2 3 748 1257
def o461:=fQ "__init__" "Row.__init__" (ib (tp 115) 0) mv9 753
def o462:=tS 1263 ["self"]
def o463:=fT "minutes" "Row.minutes" (ib (tp 115) 1) (ib (tp 89) 1)
def o464:=cO "minutes" "Row.minutes" 1260 473 1 3 755 1264
def o465:=fS "minutes" "Row.minutes" (ib (tp 115) 1) (ib (tp 89) 1) mv9 760
def o466:=tS 1270 ["self"]
def o467:=fT "hours" "Row.hours" (ib (tp 115) 2) (ib (tp 89) 1)
def o468:=cO "hours" "Row.hours" 1267 476 1 3 762 1271
def o469:=fS "hours" "Row.hours" (ib (tp 115) 2) (ib (tp 89) 1) mv9 767
def o470:=tS 1277 ["self"]
def o471:=fT "months" "Row.months" (ib (tp 115) 3) (ib (tp 89) 1)
def o472:=cO "months" "Row.months" 1274 479 1 3 769 1278
def o473:=fS "months" "Row.months" (ib (tp 115) 3) (ib (tp 89) 1) mv9 774
def o474:=tS 1284 ["self"]
def o475:=fT "times" "Row.times" (ib (tp 115) 4) (ib (tp 89) 1)
def o476:=cO "times" "Row.times" 1281 482 1 3 776 1285
def o477:=fS "times" "Row.times" (ib (tp 115) 4) (ib (tp 89) 1) mv9 781
def o478:=tS 1291 ["self","kind","month"]
def o479:=fz "days_in" "Row.days_in" (ib (tp 115) 5)
def o480:=cO "days_in" "Row.days_in" 1288 485 2 3 783 1294
def o481:=fQ "days_in" "Row.days_in" (ib (tp 115) 5) mv9 788
def o482:=fz "on_days" "Row.on_days" (ib (tp 115) 6)
def o483:=co [(.str "on_days" 1297),(.str "Row.on_days" 1298),(sf 1299),(i 491),(i 2),(i 0),(i 0),(i 3),(r 790),(.bool true),(i 181),(r 791),.none,.none,.none,(r 792),(i 1300),(i 491),(sf 1301)]
def o484:=fQ "on_days" "Row.on_days" (ib (tp 115) 6) mv9 793
def o485:=tS 1306 ["self","moment"]
def o486:=fz "holds" "Row.holds" (ib (tp 115) 7)
def o487:=cO "holds" "Row.holds" 1303 496 2 3 795 1308
def o488:=fQ "holds" "Row.holds" (ib (tp 115) 7) mv9 800
def o489:=tS 1314 ["self","moment","parts","date"]
def o490:=fz "shut_by" "Row.shut_by" (ib (tp 115) 8)
def o491:=cO "shut_by" "Row.shut_by" 1311 499 2 3 802 1318
def o492:=fQ "shut_by" "Row.shut_by" (ib (tp 115) 8) mv9 807
def o493:=tS 1324 ["self"]
def o494:=fz "shown" "Row.shown" (ib (tp 115) 9)
def o495:=cO "shown" "Row.shown" 1321 512 1 3 809 1325
def o496:=fQ "shown" "Row.shown" (ib (tp 115) 9) mv9 814
def o497:=tS 1328 ["day_marks","hour_mask","minute_mask","month_mask","time_mask","weekday_marks"]
def o498(P:Params):=di [de P "__module__" 1247 mv9,de P "__firstlineno__" 1251 (.int 463 1250),dr P "__init__" 1259 754,dr P "minutes" 1266 761,dr P "hours" 1273 768,dr P "months" 1280 775,dr P "times" 1287 782,dr P "days_in" 1296 789,dr P "on_days" 1302 794,dr P "holds" 1310 801,dr P "shut_by" 1320 808,dr P "shown" 1327 815,dr P "__static_attributes__" 1334 816,dr P "__dict__" 1336 819,dr P "__weakref__" 1338 820,de P "__doc__" 1339 .none] 4
def o499:Obj:=⟨(.type "type"),none,(.cls ⟨"Row",[(.type "object")],[(r 818),(.type "object")],817,"Row",true,[],[],false,none,false⟩),#[none,none,(some (.str "Row" 1240)),(some (.str "Row" 1248)),(some (.builtin "object.__new__")),(some (.bool true))]⟩
def o500:Obj:=⟨(.type "getset_descriptor"),none,(.fields #[(.str "__dict__" 1335),(r 818),(.builtin "function.__dict__"),(.builtin "function.__dict__#set")]),#[]⟩
def o501:Obj:=⟨(.type "getset_descriptor"),none,(.fields #[(.str "__weakref__" 1337),(r 818),(.builtin "ExceptionGroup.__weakref__"),.none]),#[]⟩
def o502:=su 818 818 818
def o503:=bm "object.__init_subclass__" (r 818)
def o504:=tS 1345 ["word","place","bounds"]
def o505:=fY "read_word" 116
def o506:=cP "read_word" 1342 514 2 3 823 1348
def o507:=fP "read_word" 116 mv9 828
def o508:=tS 1354 ["word","place"]
def o509:=fY "read_at" 117
def o510:=cP "read_at" 1351 521 2 3 830 1356
def o511:=fP "read_at" 117 mv9 835
def o512:=fY "read_row" 118
def o513:=co [(.str "read_row" 1359),(.str "read_row" 1360),(sf 1361),(i 526),(i 1),(i 0),(i 0),(i 3),(r 837),(.bool true),(i 181),(r 838),.none,.none,.none,(r 839),(i 1362),(i 526),(sf 1363)]
def o514:=fP "read_row" 118 mv9 840
def o515:=tS 1370 ["_law_script","_law_k"]
def o516:=fY "_law_cell_at" 120
def o517:=cP "_law_cell_at" 1367 534 2 3 842 1372
def o518:=fP "_law_cell_at" 120 mv8 847
def o519:=tS 1378 ["_law_number","_law_first","_law_second"]
def o520:=fY "_law_stir" 121
def o521:=cP "_law_stir" 1375 538 1 3 849 1381
def o522:=fP "_law_stir" 121 mv8 854
def o523:=tS 1387 ["_law_cell","_law_sizes","_law_mixed","_law_found","_law_size"]
def o524:=fY "_law_digits" 122
def o525:=cP "_law_digits" 1384 542 3 3 856 1392
def o526:=fP "_law_digits" 122 mv8 861
def o527:=tS 1398 ["_law_parts","_law_low","_law_high","_law_form","_law_one","_law_later","_law_by"]
def o528:=fY "_law_item" 123
def o529:=cP "_law_item" 1395 553 3 3 863 1405
def o530:=fP "_law_item" 123 mv8 868
def o531:=tS 1411 ["_law_cell","_law_low","_law_high","_law_mixed","_law_size","_law_drawn","_law_texts","_law_numbers_here","_law_k","_law_text","_law_some"]
def o532:=fY "_law_numbers" 124
def o533:=cP "_law_numbers" 1408 569 4 3 870 1422
def o534:=fP "_law_numbers" 124 mv8 875
def o535:=tS 1428 ["_law_cell","_law_mixed","_law_drawn","_law_texts","_law_marks","_law_k","_law_sort","_law_form","_law_one","_law_later","_law_by","_law_text","_law_some","_law_mark"]
def o536:=fY "_law_days" 125
def o537:=cP "_law_days" 1425 579 2 3 877 1442
def o538:=fP "_law_days" 125 mv8 882
def o539:=fY "_law_weekdays" 126
def o540:=co [(.str "_law_weekdays" 1445),(.str "_law_weekdays" 1446),(sf 1447),(i 600),(i 2),(i 0),(i 0),(i 3),(r 884),(.bool true),(i 181),(r 885),.none,.none,.none,(r 886),(i 1448),(i 600),(sf 1449)]
def o541:=fP "_law_weekdays" 126 mv8 887
def o542:=tS 1454 ["_law_cells","_law_mixed","_law_minutes","_law_hours","_law_days_here","_law_months","_law_weekdays_here","_law_rare","_law_text"]
def o543:=fY "_law_spec" 127
def o544:=cP "_law_spec" 1451 617 2 3 889 1463
def o545:=fP "_law_spec" 127 mv8 894
def o546:=tS 1469 ["_law_year"]
def o547:=fY "_law_start" 128
def o548:=cP "_law_start" 1466 633 1 3 896 1470
def o549:=fP "_law_start" 128 mv8 901
def o550:=tS 1476 ["_law_cell","_law_mixed","_law_drawn","_law_year","_law_number"]
def o551:=fY "_law_moment" 129
def o552:=cP "_law_moment" 1473 635 2 3 903 1481
def o553:=fP "_law_moment" 129 mv8 908
def o554:=tS 1487 ["_law_first","_law_last","_law_word","_law_way","_law_some"]
def o555:=fY "_law_odd" 130
def o556:=cP "_law_odd" 1484 642 4 3 910 1492
def o557:=fP "_law_odd" 130 mv8 915
def o558:=tS 1498 ["_law_row","_law_begin","_law_end","_law_paper","_law_due","_law_handed","_law_found"]
def o559:=fY "_law_asked" 131
def o560:=cP "_law_asked" 1495 648 5 3 917 1505
def o561:=fP "_law_asked" 131 mv8 922
def o562:=tS 1511 ["_law_row","_law_first","_law_last","_law_odd_here"]
def o563:=fY "_law_truths" 132
def o564:=cP "_law_truths" 1508 652 0 3 924 1515
def o565:=fP "_law_truths" 132 mv8 929
def o566:=tS 1521 ["_law_row","_law_moment_here","_law_cell","_law_mixed","_law_found","_law_paper","_law_end","_law_drawn","_law_at","_law_first","_law_last","_law_word","_law_j","_law_odd_here","_law_wrong","_law_great","_law_far"]
def o567:=fY "_law_right" 133
def o568:=cP "_law_right" 1518 658 4 3 931 1538
def o569:=fP "_law_right" 133 mv8 936
def o570:=fY "law" 134
def o571:=co [(.str "law" 1541),(.str "law" 1542),(sf 1543),(i 680),(i 1),(i 0),(i 0),(i 3),(r 938),(.bool true),(i 181),(r 939),.none,.none,.none,(r 940),(i 1544),(i 680),(sf 1545)]
def o572:=fP "law" 134 mv8 941
def hL(P:Params):List Obj:=[(boot_o_0 P),(boot_o_1 P),(boot_o_2 P),(o390 P),(boot_o_4 P),(boot_o_5 P),(boot_o_6 P),(boot_o_7 P),(boot_o_8 P),(boot_o_9 P),(boot_o_10 P),o0,o391,o2,o3,o0,o1,o6,o0,o7,o8,o9,o10,o11,(o12 P),o0,o1,o13,o14,o0,(o15 P),o16,o17,o18,o19,o20,o11,(o21 P),o0,o1,o22,o23,o0,(o24 P),o25,o26,o27,o20,o11,(o28 P),o0,o29,o30,o31,o0,o1,o32,o0,o33,o34,o35,o36,(o37 P),o38,o39,o40,o20,o11,(o41 P),o0,o42,o43,o44,o0,o1,o45,o0,o46,o47,o48,o49,(o50 P),o51,o52,o53,o0,o1,o54,o0,o55,o56,o57,o58,o0,o1,o59,o0,o60,o61,o62,o0,o1,o63,o0,o64,o65,o66,o0,o1,o67,o0,o68,o69,o70,o0,o1,o71,o0,o72,o73,o74,o0,o1,o75,o0,o76,o77,o78,o0,o1,o79,o80,o81,o0,o1,o82,o0,o83,o84,o85,o0,o1,o86,o0,o87,o88,o89,o0,o1,o90,o0,o91,o92,o93,o0,o1,o94,o95,o96,o0,o1,o97,o0,o98,o99,aGZ,o0,o1,aN5,o0,aP8,aOJ,aMO,o0,o1,aHW,o0,aPJ,aN1,aKN,o0,o1,aIH,o0,aIG,aP6,aHU,o0,o1,aIU,o0,aKI,aN4,aLA,o0,o1,aQN,o0,aPM,aN9,aIM,o0,o1,aNF,o0,aNX,aMH,aP5,o0,o1,aJY,o0,aQV,aMI,aGR,o0,o1,aLP,aJ5,aQR,o0,o1,aID,o0,aLH,aP9,aPL,o0,o1,aHF,aLF,aNA,o0,o1,aMD,o0,aJ4,aKM,aPK,o0,o1,aLT,aG5,aM6,aKE,o0,o1,aGW,o0,aMX,aQQ,aPS,o0,o1,aNI,o0,aGF,aKZ,aI1,o0,o1,aN2,o0,aMN,aQO,aGX,o0,o1,aO5,o0,aJG,aKS,aMU,o0,o1,aKB,o0,aG7,aM1,aK5,o0,o1,aL0,o0,aKD,aPF,aMS,o0,o1,aJ8,o0,aKU,aJ2,aH4,o0,o1,aGV,o0,aLV,aJR,aQH,o0,o1,aGK,aI5,aLJ,o0,o1,aG9,o0,aJJ,aHP,aLG,o0,o1,aLO,o0,aJS,aOW,aIX,o0,o1,aNB,o0,aNV,aO7,aIN,o0,o1,aO8,o0,aQD,aPQ,aNH,o0,o1,aOM,aI9,aIK,aL1,aNT,o0,o1,aLS,o0,aMR,aOY,aP2,o0,o1,aL5,aP7,aOF,o0,o1,aP4,o0,aO9,aI4,aPB,o0,o1,aLE,o0,aK2,aI8,aJX,o0,o1,aHO,aHB,aQJ,o0,o1,aQM,o0,aO1,aH3,aOV,o0,o1,aM9,o0,aP1,aJ9,aI6,o0,o1,aKK,o0,aIJ,aKO,aJM,o0,o1,aPY,o0,aMF,aNJ,aQP,o0,o1,aLR,o0,aGH,aIT,aLX,o0,o1,aQA,o0,aH8,aJW,aPC,o0,o1,aMW,o0,aHN,aLI,aOR,o0,o11,(aIP P),o0,aGI,aOG,aOO,o0,o1,aON,o0,aQE,aHE,aH5,o0,o1,aGE,o0,aJH,aIW,aQG,o0,(aIL P),o392,aKP,aKJ,aMQ,aLK,ahQ,o11,(aM5 P),o0,aHM,aM4,aJL,o0,o1,aOE,o0,aIQ,aPN,aGD,o0,o1,aG4,o0,aKT,aPI,aJB,o0,o1,aLQ,o0,aMA,aM7,aLD,aM3,(aLC P),aHQ,aG6,aGU,ahQ,o11,(aLB P),o0,aIS,aL4,aHJ,aJE,o0,o1,aHR,o0,aOZ,aMP,aJF,o0,o1,aME,o0,aGC,aJK,aNZ,o0,o1,aNC,o0,aMZ,aMB,aNL,aK7,(aPT P),aPO,aNY,aNU,ahQ,o11,(aQK P),o0,aNK,aKY,aL8,o0,o1,aPE,o0,aN7,aGJ,aLZ,o0,o1,aMC,o0,aL2,aGS,aPV,o0,o1,aKF,o0,aNQ,aG1,aL9,aGY,(aOB P),aLM,aOP,aH6,ahQ,o11,(aII P),o0,aP0,aLY,aGL,o0,o1,aNR,o0,aK3,aG3,aM8,o0,o1,aNM,o0,aKC,aHV,aPH,o0,(aHT P),aGM,aNP,aN3,ahQ,o11,(aKW P),o0,aQU,aN0,aL6,o0,o1,aJC,o0,aK0,aJD,aIB,o0,o1,aQL,o0,aQC,aOA,aO2,o0,o1,aJV,o0,aNN,aO4,aO0,aK8,(aML P),aKA,aJZ,aHZ,ahQ,o11,(aLW P),o0,aHY,aQT,aPW,o0,o1,aOI,o0,aL3,aMY,aGN,o0,o1,aGG,o0,aOQ,aIY,aOL,o0,o1,aN8,o0,aJQ,aJU,aKX,aHC,(aIR P),aN6,aJO,aM0,ahQ,o11,(o393 P),o0,o394,o395,o396,o0,o1,o397,o0,o398,o399,o400,o0,o1,o401,o0,o402,o403,o404,o0,o1,o405,o0,o406,o407,o408,o409,(o410 P),o411,o412,o413,o0,o1,o414,o0,o415,o416,o417,o0,o1,o418,o0,o419,o420,o421,o0,o1,o422,o0,o423,o424,o425,o0,o1,o426,o0,o427,o428,o429,o0,o1,o430,o0,o431,o432,o433,o0,o1,o434,o0,o435,o436,o437,o0,o1,o438,o0,o439,o440,o441,o442,o443,o444,o445,o0,o1,o446,o0,o447,o448,o449,o0,o1,o450,o0,o451,o452,o453,o0,o11,(o454 P),o0,o455,o456,o457,o0,o1,o458,o0,o459,o460,o461,o0,o1,o462,o0,o463,o464,o465,o0,o1,o466,o0,o467,o468,o469,o0,o1,o470,o0,o471,o472,o473,o0,o1,o474,o0,o475,o476,o477,o0,o1,o478,o0,o479,o480,o481,o0,o1,o482,o483,o484,o0,o1,o485,o0,o486,o487,o488,o0,o1,o489,o0,o490,o491,o492,o0,o1,o493,o0,o494,o495,o496,o497,(o498 P),o499,o500,o501,o502,o503,o0,o1,o504,o0,o505,o506,o507,o0,o1,o508,o0,o509,o510,o511,o0,o1,o512,o513,o514,o0,o1,o515,o0,o516,o517,o518,o0,o1,o519,o0,o520,o521,o522,o0,o1,o523,o0,o524,o525,o526,o0,o1,o527,o0,o528,o529,o530,o0,o1,o531,o0,o532,o533,o534,o0,o1,o535,o0,o536,o537,o538,o0,o1,o539,o540,o541,o0,o1,o542,o0,o543,o544,o545,o0,o1,o546,o0,o547,o548,o549,o0,o1,o550,o0,o551,o552,o553,o0,o1,o554,o0,o555,o556,o557,o0,o1,o558,o0,o559,o560,o561,o0,o1,o562,o0,o563,o564,o565,o0,o1,o566,o0,o567,o568,o569,o0,o1,o570,o571,o572]
def t2(P:Params):BT:=brn 11 (hL P)
def s2(w:World)(os:OsState):SharedT:=⟨t2 w.params,943,⟨[],[],[],0,[],[],false,#[],[],0,false,false,false,0,[2000,10,10],false,0,true,[],[],0,false⟩,#[],⟨0,0,0,0⟩,1547,os⟩
def l1:List Stmt:=(bi.drop 96).take 39
theorem r1(w:World)(os:OsState):
  segRunT treeTable pw w 11 an 1 1843 (s1 w os) (piecesOf l1 ev cd ⟨352,0,365,55⟩ bk) =
  some (.next,s2 w os,cd,⟨680,0,688,24⟩):=
 byRow2 "special-get-raises" (P:=fun w=>segRunT treeTable pw w 11 an 1 1843 (s1 w os) (piecesOf l1 ev cd ⟨352,0,365,55⟩ bk)=some (.next,s2 w os,cd,⟨680,0,688,24⟩)) (fun w=>by kernel_rfl) (fun w=>by kernel_rfl) w
def hF(P:Params):Heap:=⟨⟨hL P⟩,⟨[],[],[],0,[],[],false,#[],[],0,false,false,false,0,[2000,10,10],false,0,true,[],[],0,false⟩⟩
def sF(w:World)(os:OsState):Shared:=⟨hF w.params,#[],⟨0,0,0,0⟩,1547,os⟩
theorem fin(w:World)(os:OsState):
  topRun treeTable pw w 11 an 2 (s2 w os).abs (restOf [] ev cd ⟨680,0,688,24⟩ bk) =
  some (sF w os):=by kernel_rfl
theorem bis:bi=(l0++(l1++[])):=by kernel_rfl
theorem run(w:World)(os:OsState):topRun treeTable pw w 11 an (12+(1+(4845+(1843+(2))))) ⟨boot_heap w.params,⟨[]⟩,boot_drawn,boot_toks,os⟩ (topStub pw)=some (sF w os):=by
 refine go_top (pre w os) (piece_block (blk w os) ?_)
 rw[bis]
 exact (piece_app (segRun_of (r0 w os)) (piece_app (segRun_of (r1 w os)) (fin w os)))
theorem opn:∀w:World,(fencedOpening treeTable pw w 13498).map (fun s=>(s.heap,s.gens,s.drawn,s.toks))=some (boot_heap w.params,⟨[]⟩,boot_drawn,boot_toks):=
 boot_open (by kernel_rfl) rfl (fun s=>by kernel_rfl)
theorem siz(w:World):((boot_heap w.params).isNs mainGlobals&&(⟨[]⟩:Array GenState).size==0,(boot_heap w.params).objs.size,(boot_heap w.params).nsMap mainGlobals "__annotations__")=(true,11,an):=by kernel_rfl
end
end
theorem aJP{q:Program}{loose mods:List Str}{Xt:Shared->Bool}{s:Shared}
  (e1:seen ((recsOf q).map (·.name)) (ownsOf q) [] {s with gens:= #[]}=expectedOf q) (e2:s.heap.bltView=bltViewBooted)
  (a1:s.heap.keysOk (looseW q loose) ((recsOf q).map (·.name)) ((litsOf q).map (·.1)) ((clssOf q (looseW q loose)).map (·.name))=true)
  (a2:s.heap.accountedOkI mods=true) (a3:s.heap.isNs mainGlobals=true) (a4:s.heap.isNs builtinsNs=true)
  (a5:tablesOk q s.heap=true) (a6:Xt s=true) (a7:(s.gens.size==0)=true) (e4:tabsOk q s=true)
  (e5:pinSeenD q (drecsOf q) s=pinGoodD (drecsOf q)) (e6:plainSeenE q (looseW q loose) s=plainGoodE q (looseW q loose))
  (e7:plainSeenD q loose s=plainGoodD q loose) (e8:wideSeen q s=wideGood q) (e9:clsSeenW q loose s=clsGoodW q loose):
  openSeen q loose mods Xt true s=openGood q loose:=by
 unfold openSeen openGood
 rw[e1,e2,a1,a2,a3,a4,a5,a6,if_pos rfl,a7,e4,e5,e6,e7,e8,e9];rfl
theorem aJN{α:Type}(n:Nat){l r:List α}(h1:l.take n=r.take n)(h2:l.drop n=r.drop n):l=r:=by
 rw[←List.take_append_drop n l,h1,h2,List.take_append_drop]
noncomputable def aaL:Program:=view PySem.Challenge.pw_fivefields_k55_papers_of_any_kind [0,2,3,4,5,7,9,10,11,12,13,14,15,16,17,18,19,20,22,23,24,26,27,28,30,31,32,33,34,35,36,38,39,40,41,42,43,44,46,47,48,49,50,51,52,53,54,55,56,58,59,60,61,62,63,65,66,67,68,69,70,71,72,73,74,75,77,78,79,80,81,82,83,84,85,86,87,88,89,90,91,92,93,94,95,96,97,98,99,100,101,102,103,105,106,107,108,109,110,111,112,113,114,115,116,117,118,120,121,122,123,124,125,126,127,128,129,130,131,132,133,134]
noncomputable def free:List Str:=[Str.ofString "Last",Str.ofString "BOUNDS"]
noncomputable def read:List (Str×WData):=[]
section
set_option maxHeartbeats 0
set_option maxRecDepth 100000
noncomputable section
def XT:Shared->Bool:=fun z=>xlAt aaL read z&&recOk (RowW.records (OpenRow.toRowW (OpenLaw.row PySem.Challenge.rw_fivefields_k55_papers_of_any_kind))) z
abbrev SE(w:World)(os:OsState):=openSeen aaL free (importedModules pw.main.body) XT true (sF w os)
section
variable(w:World)(os:OsState)
theorem z1:seen ((recsOf aaL).map (·.name)) (ownsOf aaL) [] {sF w os with gens:= #[]}=expectedOf aaL:=by kernel_rfl
theorem z2:(sF w os).heap.bltView=bltViewBooted:=by kernel_rfl
theorem y1:(sF w os).heap.keysOk (looseW aaL free) ((recsOf aaL).map (·.name)) ((litsOf aaL).map (·.1)) ((clssOf aaL (looseW aaL free)).map (·.name))=true:=by kernel_rfl
theorem y2:(sF w os).heap.accountedOkI (importedModules pw.main.body)=true:=by kernel_rfl
theorem y3:(sF w os).heap.isNs mainGlobals=true:=by kernel_rfl
theorem y4:(sF w os).heap.isNs builtinsNs=true:=by kernel_rfl
theorem y5:tablesOk aaL (sF w os).heap=true:=by kernel_rfl
theorem y6:XT (sF w os)=true:=by kernel_rfl
theorem y7:((sF w os).gens.size==0)=true:=by kernel_rfl
theorem z4:tabsOk aaL (sF w os)=true:=by kernel_rfl
theorem z5:pinSeenD aaL (drecsOf aaL) (sF w os)=pinGoodD (drecsOf aaL):=by kernel_rfl
theorem z6:plainSeenE aaL (looseW aaL free) (sF w os)=plainGoodE aaL (looseW aaL free):=by kernel_rfl
theorem z7:plainSeenD aaL free (sF w os)=plainGoodD aaL free:=by kernel_rfl
theorem z8:wideSeen aaL (sF w os)=wideGood aaL:=by kernel_rfl
theorem z9:clsSeenW aaL free (sF w os)=clsGoodW aaL free:=by kernel_rfl
theorem look:SE w os=openGood aaL free:=aJP (q:=aaL) (loose:=free) (mods:=importedModules pw.main.body) (Xt:=XT) (s:=sF w os) (z1 w os) (z2 w os) (y1 w os) (y2 w os) (y3 w os) (y4 w os) (y5 w os) (y6 w os) (y7 w os) (z4 w os) (z5 w os) (z6 w os) (z7 w os) (z8 w os) (z9 w os)
end
theorem lk0(w:World)(os:OsState):(staticsOk (importedModules pw.main.body) (boot_heap w.params) (hF w.params)&&namesBound pw (hF w.params)
  &&gensDone (sF w os)&&laidKept (boot_heap w.params) (hF w.params))=true:=by kernel_rfl
section
set_option Elab.async false
local macro_rules
  | `(tactic| o_head $H) => `(tactic| (have kk := $H; assumption))
theorem d0(h:PySem.Challenge.rw_fivefields_k55_papers_of_any_kind.row.Holds):PySem.Challenge.rw_fivefields_k55_papers_of_any_kind.row.Holds:=by
 w_on
 k_head
end
theorem kk(w:World)(os:OsState):((d0.heap_1 w.params).map fun p=>p.1).map (sF w os).heap.get? =(d0.heap_1 w.params).map fun p=>some p.2:=by
 iterate 3 (refine aJN 190 ?_ ?_;(· as_aux_lemma=>kernel_rfl))
 as_aux_lemma=>kernel_rfl
abbrev rR:OpenRow:=OpenLaw.row PySem.Challenge.rw_fivefields_k55_papers_of_any_kind
def as0:List Addr:=(d0.heap_1 {strHash:=fun _=>0,shareClass:=fun _=>0,mergeTok:=fun t=>t,idOf:=fun _=>0,idOfShared:=fun _ _=>0,followText:=fun _=>true,idOfImm:=fun _=>0}).map (·.1)
theorem awJ(P:Params):as0=(d0.heap_1 P).map (·.1):=by kernel_rfl
theorem lft:LeftO rR.prog aaL free XT (kHook d0.heap_1 as0 awJ).obs (kHook d0.heap_1 as0 awJ).val 13498:=by
 refine LeftO.of_pieces opn siz run rfl ?_
 intro w
 funext os
 refine looks_pair (lk0 w os) (looks_pair (look w os) ?_)
 show as0.map (sF w os).heap.get? =(d0.heap_1 w.params).map fun p=>some p.2
 rw[awJ w.params]
 exact kk w os
theorem dS:(defOf aaL rR.name).isSome=true:=by kernel_rfl
def dL:DefRec:=((defOf aaL rR.name).get dS).1
theorem h1:defOf aaL rR.name=some (dL,[]):=by kernel_rfl
theorem h2:rR.prog.theDef rR.name=some (dL.params,dL.body,dL.scope):=by kernel_rfl
theorem h3:kwWritten? dL.params.kwonlyargs dL.params.kw_defaults=some []:=by kernel_rfl
theorem h4:dL.params.defaults=[]:=by kernel_rfl
theorem h5:dL.name="law":=by kernel_rfl
theorem h6:(!rR.writes||rR.records.isEmpty)=true:=by kernel_rfl
theorem h7:(chainsOk aaL&&opensWell rR.prog&&(frees rR.toRowW&&rR.within.isEmpty))=true:=by decide +kernel
theorem h8:rR.prog.bare:=⟨rfl,rfl,rfl,rfl,rfl,by decide +kernel⟩
theorem lst(said:rR.wellSaid=true)(hw:rR.toRowW.promised)
  (hc:WalkO aaL free (XL aaL read) (kHook d0.heap_1 as0 awJ).says rR.toRowW dL [] fun f vs=>PySem.call f vs):rR.Holds:=
 holds_open (q:=aaL) (loose:=free) (Xt:=XT) (XP:=XL aaL read) lft (kHook d0.heap_1 as0 awJ).of (kHook d0.heap_1 as0 awJ).keeps
  (fun z y=>xl_of z (Bool.and_eq_true_iff.mp y).1) XL.keeps h1 h2 h3 (fun z y=>recFacts_of (Bool.and_eq_true_iff.mp y).2) h6 said h7 h8 hw hc
theorem ag6:((recsOf aaL).find? (fun e=>e.name==Str.ofString "next_from")).isSome=true:=by kernel_rfl
theorem an7:(recsOf aaL).find? (fun e=>e.name==Str.ofString "next_from")=some (((recsOf aaL).find? (fun e=>e.name==Str.ofString "next_from")).get ag6):=(Option.some_get ag6).symm
theorem apN(P:Params):tabIn (d0.heap_1 P) "next_from"=some (339,335):=by kernel_rfl
theorem an1(P:Params):(d0.heap_1 P).lookup 335=none:=by kernel_rfl
theorem tb(w:World)(h:Heap)(mean:ExcName->Option Value)(mg mb:Str->Option Value)(X:(d0.heap_1 w.params).In h)(T:Top aaL (looseW aaL free) mean mg mb h):∀b∈[335],(isCodeTable h b/\h.get? b=some (tabObj #[]))/\(d0.heap_1 w.params).lookup b=none:=by
 intro b hb
 simp only[List.mem_cons,List.not_mem_nil,or_false] at hb
 rcases hb with rfl
 ·obtain⟨h1,h2⟩:=tab_of T X an7 (apN w.params)
  exact⟨⟨(h1.tab h2).isCodeTable,h2⟩,an1 w.params⟩
theorem bi4(P:Params):nsIn (d0.heap_1 P) mainGlobals "__builtins__"=some (some (.ref 4)):=by kernel_rfl
theorem bl4(P:Params):(d0.heap_1 P).lookup 4=none:=by kernel_rfl
theorem tbm(w:World)(h:Heap)(mg:Str->Option Value)(X:(d0.heap_1 w.params).In h)(G:h.Ns mainGlobals mg):mg "__builtins__"=some (.ref 4)/\(d0.heap_1 w.params).lookup 4=none:=⟨mg_of X G (bi4 w.params),bl4 w.params⟩
end
end
end Hd
set_option Elab.async false
set_option linter.all false
set_option maxRecDepth 100000
namespace L2
open PySem PySem.Spec PyProof.Rows
abbrev FG:=PySem.W.Frag
abbrev dI:=@wpAny_passesOwn
abbrev dJ:=@wpAny_bind
abbrev dM:=@wpAny_mono
abbrev dN:=@sizeLine_eq
abbrev dO:=@wpAny_holding
abbrev dP:=@of_decide_eq_true
abbrev dQ:=@decide_eq_true
abbrev dR:=@decide_eq_true_eq
abbrev dU:=@decide_eq_false
abbrev dW:=@wpAny_Call_Name_kw
abbrev dX:=@wpAny_pure
abbrev dY:=@wpAny_truthy_bool
abbrev aQ:=@Nat.le_refl
abbrev aR:=@List.length_map
abbrev aS:=@Heap.lt_size
abbrev aU:=@List.length_append
abbrev aV:=@Int.le_refl
abbrev aW:=@List.mem_cons
abbrev aX:=@Nat.ne_of_lt
abbrev aY:=@Nat.lt_of_lt_of_le
abbrev aZ:=@Heap.get?_push_of_some
abbrev a8:=@Option.some.inj
abbrev a9:=@Bool.false_ne_true
abbrev bB:=@List.size_toArray
abbrev bC:=@List.map_cons
abbrev bD:=@List.map_append
abbrev bE:=@Nat.le_trans
abbrev bF:=@List.getElem?_map
abbrev bG:=@Int.toNat_of_nonneg
abbrev bH:=@List.mem_append
abbrev bI:=@List.mem_singleton
abbrev bJ:=@Bool.and_eq_true
abbrev bK:=@Heap.get?_push_size
abbrev bL:=@List.mem_of_getElem?
abbrev bM:=@List.length_singleton
abbrev bN:=@Int.le_of_lt
abbrev bO:=@Nat.zero_le
abbrev bP:=@List.mem_append_right
abbrev bQ:=@Int.toNat_natCast
abbrev bR:=@List.mem_map
abbrev bS:=@List.not_mem_nil
abbrev bU:=@List.length_cons
abbrev bV:=@List.all_eq_true
abbrev bW:=@Int.emod_nonneg
abbrev bX:=@List.mem_cons_self
abbrev bY:=@List.mem_cons_of_mem
abbrev bZ:=@List.map_map
abbrev cC:=@Int.le_trans
abbrev cD:=@Nat.lt_irrefl
abbrev cE:=@List.take_succ
abbrev cF:=@Int.emod_lt_of_pos
abbrev cG:=@Int.eq_ofNat_of_zero_le
abbrev cH:=@List.getElem?_eq_getElem
abbrev cI:=@List.any_cons
abbrev cJ:=@List.append_nil
abbrev cL:=@List.length_take
abbrev cM:=@List.cons_ne_nil
abbrev cN:=@Bool.eq_iff_iff
abbrev cQ:=@List.take_length
abbrev cR:=@List.mem_range
abbrev cT:=@List.getElem?_eq_some_iff
abbrev cU:=@List.flatten_cons
abbrev cV:=@List.filterMap_cons
abbrev cW:=@Int.natCast_nonneg
abbrev cX:=@List.any_eq_false
abbrev cY:=@Option.isSome_iff_exists
abbrev cZ:=@List.length_replicate
abbrev c6:=@List.length_drop
abbrev c7:=@List.lookup_cons
abbrev c8:=@Option.map_some
abbrev c9:=@Nat.lt_of_le_of_lt
abbrev dA:=@Int.ediv_nonneg
abbrev dB:=@List.find?_cons
abbrev dC:=@List.getLast?_concat
abbrev dD:=@List.replicate_succ
abbrev dE:=@List.length_range
abbrev dF:=@List.filterMap_append
abbrev dG:=@Nat.le_of_ble_eq_true
abbrev dH:=@List.take_of_length_le
noncomputable abbrev Key:=Sum Int Str
noncomputable def am5:Key->Value->Bool
 |.inl k,v=>Value.isInt k v
 |.inr x,v=>Value.isStrOf x v
noncomputable def keyH(w:World):Key->Int
 |.inl k=>hashInt k
 |.inr x=>hashStr w x
theorem abA:∀{k:Key} {v:Value},am5 k v=true->(∃i t,k=Sum.inl i/\v=Value.int i t)∨(∃x t,k=Sum.inr x/\v=Value.str x t)
 |.inl i,v,h=>by
  obtain⟨t,e⟩:=Value.isInt_shape (k:=i) (v:=v) h
  exact .inl ⟨i,t,rfl,e⟩
 |.inr x,v,h=>by
  obtain⟨t,e⟩:=Value.isStrOf_shape (x:=x) (v:=v) h
  exact .inr ⟨x,t,rfl,e⟩
theorem avO(i:Int)(t:Tok):am5 (.inl i) (.int i t)=true:=by simp[am5,Value.isInt]
theorem avK(x:Str)(t:Tok):am5 (.inr x) (.str x t)=true:=by simp[am5,Value.isStrOf]
theorem aFD(a b:Int):decide ((Sum.inl a:Key)=Sum.inl b)=(a==b):=by
 by_cases e:a=b
 ·subst e;simp
 ·have h:¬(Sum.inl a:Key)=Sum.inl b:=fun q=>e (Sum.inl.inj q)
  rw[dU h]
  exact (beq_eq_false_iff_ne.mpr e).symm
theorem aDV(a b:Str):decide ((Sum.inr a:Key)=Sum.inr b)=decide (a=b):=by
 by_cases e:a=b
 ·subst e;simp
 ·have h:¬(Sum.inr a:Key)=Sum.inr b:=fun q=>e (Sum.inr.inj q)
  rw[dU h,dU e]
theorem aEE(a:Int)(b:Str):decide ((Sum.inl a:Key)=Sum.inr b)=false:=dU (fun q=>nomatch q)
theorem aEN(a:Str)(b:Int):decide ((Sum.inr a:Key)=Sum.inl b)=false:=dU (fun q=>nomatch q)
noncomputable def abC(prog:Program)(w:World):PySem.KeyKind prog w Key where
 is:=am5
 hash:=keyH w
 inj:=fun v a b ha hb=>by
  rcases abA ha with ⟨i,t,rfl,rfl⟩ | ⟨x,t,rfl,rfl⟩
  ·rcases abA hb with ⟨j,u,rfl,e⟩ | ⟨y,u,rfl,e⟩
   ·injection e with e1 _;rw[e1]
   ·exact nomatch e
  ·rcases abA hb with ⟨j,u,rfl,e⟩ | ⟨y,u,rfl,e⟩
   ·exact nomatch e
   ·injection e with e1 _;rw[e1]
 byValue:=fun k v h=>by
  rcases abA h with ⟨i,t,rfl,rfl⟩ | ⟨x,t,rfl,rfl⟩<;>rfl
 pyHash:=fun hv h=>by
  rcases abA hv with ⟨i,t,rfl,rfl⟩ | ⟨x,t,rfl,rfl⟩
  ·exact wpAny_pyHash_int h
  ·exact wpAny_pyHash_str h
 eqBool:=fun hu hv h=>by
  rcases abA hu with ⟨i,t,rfl,rfl⟩ | ⟨x,t,rfl,rfl⟩
  ·rcases abA hv with ⟨j,u,rfl,rfl⟩ | ⟨y,u,rfl,rfl⟩
   ·rw[aFD] at h;exact wpAny_eqBool_int h
   ·rw[aEE] at h;exact SeqAt.EqAt.int_str i t y u _ _ _ _ h
  ·rcases abA hv with ⟨j,u,rfl,rfl⟩ | ⟨y,u,rfl,rfl⟩
   ·rw[aEN] at h;exact SeqAt.EqAt.str_int x t j u _ _ _ _ h
   ·rw[aDV] at h;exact wpAny_eqBool_str h
 «strs»:=fun k x t v h=>by
  rcases abA h with ⟨i,u,rfl,e⟩ | ⟨y,u,rfl,e⟩
  ·exact nomatch e
  ·injection e with e1 _
   subst e1
   cases v<;>rfl
theorem arF(prog:Program)(w:World)(i:Int)(t:Tok):(abC prog w).is (.inl i) (.int i t)=true:=avO i t
theorem ar7(prog:Program)(w:World)(x:Str)(t:Tok):(abC prog w).is (.inr x) (.str x t)=true:=avK x t
inductive V where
 |non | bl (b:Bool) | int (i:Int) | str (x:Str) | byt (b:Array UInt8) | flt (b:UInt64) | ref (a:Addr) | ty (n:String)
 deriving DecidableEq
noncomputable def RelV:V->Value->Prop
 |.non,u=>u=Value.none
 |.bl b,u=>u=Value.bool b
 |.int i,u=>∃t,u=Value.int i t
 |.str x,u=>∃t,u=Value.str x t
 |.byt b,u=>∃t,u=Value.bytes b t
 |.flt b,u=>∃t,u=Value.float b t
 |.ref a,u=>u=Value.ref a
 |.ty n,u=>u=Value.type n
noncomputable abbrev Vals:List V->List Value->Prop:=Paired RelV
theorem Vals.length{xs:List V}{us:List Value}(r:Vals xs us):xs.length=us.length:=Paired.length r
theorem Vals.get:∀{xs:List V} {us:List Value} {i:Nat} {x:V},Vals xs us->xs[i]? =some x->∃u,us[i]? =some u/\RelV x u
 |_,_,_,_,.nil,e=>by simp at e
 |_,_,0,_,.cons r _,e=>by simp at e;subst e;exact⟨_,rfl,r⟩
 |_,_,i+1,x,.cons _ t,e=>by
  obtain⟨u,h1,h2⟩:=Vals.get (i:=i) (x:=x) t (by simpa using e)
  exact⟨u,by simpa using h1,h2⟩
theorem Vals.set{x:V}{u:Value}(r:RelV x u):∀{xs:List V} {us:List Value} (i:Nat),Vals xs us->Vals (xs.set i x) (us.set i u)
 |_,_,_,.nil=>.nil
 |_,_,0,.cons _ t=>.cons r t
 |_,_,i+1,.cons q t=>.cons q (Vals.set r i t)
theorem Vals.append:∀{xs ys:List V} {us ws:List Value},Vals xs us->Vals ys ws->Vals (xs++ys) (us++ws)
 |_,_,_,_,.nil,s=>s
 |_,_,_,_,.cons r t,s=>.cons r (Vals.append t s)
theorem Vals.take:∀{xs:List V} {us:List Value} (n:Nat),Vals xs us->Vals (xs.take n) (us.take n)
 |_,_,0,_=>.nil
 |_,_,_+1,.nil=>.nil
 |_,_,n+1,.cons r t=>.cons r (Vals.take n t)
theorem Vals.drop:∀{xs:List V} {us:List Value} (n:Nat),Vals xs us->Vals (xs.drop n) (us.drop n)
 |_,_,0,r=>r
 |_,_,_+1,.nil=>.nil
 |_,_,n+1,.cons _ t=>Vals.drop n t
noncomputable def RelO:Option V->Option Value->Prop
 |some v,some u=>RelV v u
 |none,none=>True
 |_,_=>False
noncomputable def KV{κ:Type}:List (κ×V)->List (κ×Value)->Prop:=Paired fun (p:κ×V) (q:κ×Value)=>p.1=q.1/\RelV p.2 q.2
noncomputable def kV:Key->V
 |.inl i=>.int i
 |.inr x=>.str x
inductive HO where
 |lst (xs:List V)
 |tup (xs:List V)
 |dK (kvs:List (Key×V)) | dT (kvs:List (List Key×V))
 |set (S:Int->Bool) (n:Nat)
 |ins (C dx:Addr) (fs:List (Str×V))
 |own (x:Addr)
 |xd (fs:List (Str×V))
 |met (f x:Addr)
 |rng (lo hi:Int)
 |frz (o:Obj) (u:HO)
 |tbl (ps:Array Value)
 |ext (φ:Heap->Prop)
noncomputable abbrev Hp:=Addr->Option HO
noncomputable def upd(H:Hp)(a:Addr)(o:HO):Hp:=fun b=>if b=a then some o else H b
theorem aaA{H:Hp}{a:Addr}{o:HO}:upd H a o a=some o:=by unfold upd;rw[if_pos rfl]
theorem aaF{H:Hp}{a b:Addr}{o:HO}(h:b≠a):upd H a o b=H b:=by unfold upd;rw[if_neg h]
theorem aGT{H:Hp}{a b:Addr}{o u:HO}(h:H a=some o)(h':H b=some u)(d:o≠u):a≠b:=by
 intro e;subst e;rw[h] at h';exact d (a8 h')
theorem aaI{H:Hp}{a b:Addr}{o:HO}(h:H a=some o)(h':H b=none):a≠b:=by
 intro e;subst e;rw[h] at h';cases h'
section
variable(P:Program)(w:World)
noncomputable def ObjOk(H:Hp)(h:Heap)(a:Addr):HO->Prop
 |.lst xs=>xs.length<=sizeLine/\∃(its:List Value) (n:Nat),Vals xs its/\h.get? a=some {cls:=.type "list",data:=.seq its.toArray n}
 |.tup xs=>xs.length<=sizeLine/\∃its:List Value,Vals xs its/\IsTup h a its.toArray
 |.dK kvs=>kvs.length<=sizeLine/\(a==sysModules)=false/\∃vs,KV kvs vs/\h.DictOf (abC P w) a vs
 |.dT kvs=>kvs.length<=sizeLine/\(a==sysModules)=false/\∃xs:List (List Key×Addr×Value),
   Paired (fun (p:List Key×V) (q:List Key×Addr×Value)=>p.1=q.1/\H q.2.1=some (.tup (p.1.map kV))/\RelV p.2 q.2.2) kvs xs/\
   ∃o es ep,h.get? a=some o/\o.ExactDict/\o.data=.dict es ep/\es.toList=xs.map (entryOfKey (tupleKind (abC P w)))/\(xs.map (·.1)).Nodup
 |.set S n=>h.SetOf (intKind P w) a S n
 |.ins C dx fs=>H dx=some (.own a)/\fs.length<=1000/\dx≠a/\h.get? a=some (PySem.W.instObj C dx)/\
   ∃mA,h.Ns1 dx mA/\(∀f,RelO (fs.lookup f) (mA f))/\PySem.Within mA (fs.map (·.1))
 |.own _=>∃o,h.get? a=some o
 |.xd fs=>∃mA,h.Ns1 a mA/\∀f,RelO (fs.lookup f) (mA f)
 |.rng lo hi=>∃t u v,h.get? a=some {cls:=.type "range",data:=.fields #[.int lo t,.int hi u,.int 1 v]}
 |.frz o u=>h.get? a=some o/\ObjOk H h a u
 |.tbl ps=>h.get? a=some {cls:=.none,data:=.fields ps}
 |.met f x=>h.get? a=some (PySem.W.methodObj (.ref f) (.ref x))
 |.ext φ=>φ h/\(∃o,h.get? a=some o)/\∀h1 h2:Heap,φ h1->(∀o,h1.get? a=some o->h2.get? a=some o)->φ h2
noncomputable def HOk(H:Hp)(h:Heap):Prop:=∀a o,H a=some o->ObjOk P w H h a o
end
section
variable{P:Program}{w:World}{H H':Hp}{h h':Heap}{a:Addr}{o:HO}
theorem ObjOk.lt(x:ObjOk P w H h a o):a<h.objs.size:=by
 cases o with
 |lst xs=>obtain⟨_,_,_,_,e⟩:=x;exact aS e
 |tup xs=>obtain⟨_,_,_,p⟩:=x;exact p.lt
 |dK kvs=>obtain⟨_,_,_,_,o,_,_,e,_⟩:=x;exact aS e
 |dT kvs=>obtain⟨_,_,_,_,o,_,_,e,_⟩:=x;exact aS e
 |set S n=>obtain⟨o,_,_,_,e,_⟩:=x;exact aS e
 |ins C dx fs=>obtain⟨_,_,_,e,_⟩:=x;exact aS e
 |own y=>obtain⟨_,e⟩:=x;exact aS e
 |xd fs=>obtain⟨_,⟨_,_,_,e,_⟩,_⟩:=x;exact aS e
 |rng lo hi=>obtain⟨_,_,_,e⟩:=x;exact aS e
 |frz ob u=>obtain⟨e,_⟩:=x;exact aS e
 |tbl ps=>exact aS (show h.get? a=some _ from x)
 |met f y=>exact aS (show h.get? a=some _ from x)
 |ext φ=>obtain⟨_,⟨_,e⟩,_⟩:=x;exact aS e
theorem Paired.mapP{α β:Type}{F G:α->β->Prop}:∀{l₁:List α} {l₂:List β},Paired F l₁ l₂->(∀a b,F a b->G a b)->Paired G l₁ l₂
 |_,_,.nil,_=>.nil
 |_,_,.cons r t,f=>.cons (f _ _ r) (Paired.mapP t f)
theorem Paired.imp'{α β:Type}{F G:α->β->Prop}(f:∀a b,F a b->G a b){l₁:List α}{l₂:List β}(r:Paired F l₁ l₂):Paired G l₁ l₂:=Paired.mapP r f
theorem ObjOk.stay(x:ObjOk P w H h a o)(k:∀b u,(b=a∨H b=some (.own a))->h.get? b=some u->h'.get? b=some u)
  (ho:∀b,H b=some (.own a)->H' b=some (.own a)) (ht:∀b xs,H b=some (.tup xs)->H' b=some (.tup xs)):ObjOk P w H' h' a o:=by
 induction o with
 |lst xs=>obtain⟨z,its,n,r,e⟩:=x;exact⟨z,its,n,r,k _ _ (.inl rfl) e⟩
 |tup xs=>obtain⟨z,its,r,ob,e,c⟩:=x;exact⟨z,its,r,ob,k _ _ (.inl rfl) e,c⟩
 |dK kvs=>obtain⟨z,y,vs,r,ob,es,ep,e,c⟩:=x;exact⟨z,y,vs,r,ob,es,ep,k _ _ (.inl rfl) e,c⟩
 |dT kvs=>
  obtain⟨z,y,xs,r,ob,es,ep,e,c⟩:=x
  exact⟨z,y,xs,Paired.mapP r fun p q z=>⟨z.1,ht _ _ z.2.1,z.2.2⟩,ob,es,ep,k _ _ (.inl rfl) e,c⟩
 |set S n=>obtain⟨ob,es,ep,t,e,c⟩:=x;exact⟨ob,es,ep,t,k _ _ (.inl rfl) e,c⟩
 |ins C dx fs=>
  obtain⟨d,z,ne,e,mA,⟨od,es,ep,e2,c⟩,r⟩:=x
  exact⟨ho _ d,z,ne,k _ _ (.inl rfl) e,mA,⟨od,es,ep,k _ _ (.inr d) e2,c⟩,r⟩
 |own y=>obtain⟨ob,e⟩:=x;exact⟨ob,k _ _ (.inl rfl) e⟩
 |xd fs=>obtain⟨mA,⟨od,es,ep,e,c⟩,r⟩:=x;exact⟨mA,⟨od,es,ep,k _ _ (.inl rfl) e,c⟩,r⟩
 |rng lo hi=>obtain⟨t,u,v,e⟩:=x;exact⟨t,u,v,k _ _ (.inl rfl) e⟩
 |frz ob u ih=>obtain⟨e,q⟩:=x;exact⟨k _ _ (.inl rfl) e,ih q⟩
 |tbl ps=>
  have e:h.get? a=some {cls:=.none,data:=.fields ps}:=x
  show h'.get? a=some {cls:=.none,data:=.fields ps}
  exact k a _ (.inl rfl) e
 |met f y=>
  have e:h.get? a=some (PySem.W.methodObj (.ref f) (.ref y)):=x
  show h'.get? a=some (PySem.W.methodObj (.ref f) (.ref y))
  exact k a _ (.inl rfl) e
 |ext φ=>obtain⟨p,⟨o,e⟩,st⟩:=x;exact⟨st _ _ p fun o q=>k _ _ (.inl rfl) q,⟨o,k _ _ (.inl rfl) e⟩,st⟩
theorem HOk.lt(x:HOk P w H h)(e:H a=some o):a<h.objs.size:=(x a o e).lt
theorem HOk.fresh(x:HOk P w H h)(e:h.objs.size<=a):H a=none:=by
 cases q:H a with
 |none=>rfl
 |some u=>exact absurd (aY (x.lt q) e) (cD _)
theorem HOk.kept(x:HOk P w H h)(k:∀b u,h.get? b=some u->h'.get? b=some u):HOk P w H h':=fun a o e=>
 (x a o e).stay (fun b u _ q=>k b u q) (fun _ q=>q) fun _ _ q=>q
theorem HOk.laid(x:HOk P w H h)(k:∀b u,h.get? b=some u->h'.get? b=some u)(hp:h.objs.size<=a)(new:ObjOk P w (upd H a o) h' a o):HOk P w (upd H a o) h':=fun b u e=>by
 have hn:=x.fresh hp
 by_cases hb:b=a
 ·subst hb;rw[aaA] at e;cases e;exact new
 ·rw[aaF hb] at e
  exact (x b u e).stay (fun c v _ q=>k c v q) (fun c q=>by rw[aaF (aaI q hn)];exact q) fun c xs q=>by rw[aaF (aaI q hn)];exact q
end
noncomputable def Rd(H:Hp)(a:Addr)(u:HO):Prop:=H a=some u∨∃o,H a=some (.frz o u)
theorem Rd.ok{P:Program}{w:World}{H:Hp}{h:Heap}{a:Addr}{u:HO}(r:Rd H a u)(x:HOk P w H h):ObjOk P w H h a u:=by
 rcases r with r | ⟨o,r⟩
 ·exact x a u r
 ·obtain⟨_,q⟩:=x a _ r
  exact q
noncomputable def Mut:Option HO->Prop
 |some (.lst _)=>True
 |some (.dK _)=>True
 |some (.dT _)=>True
 |some (.set _ _)=>True
 |some (.ins _ _ _)=>True
 |some (.ext _)=>True
 |_=>False
section
variable{P:Program}{w:World}{H:Hp}{h h':Heap}{x e:Addr}{o':HO}
theorem HOk.write(ok:HOk P w H h)(mu:Mut (H x))(he:e=x∨H e=some (.own x))(k:∀b u,b≠e->h.get? b=some u->h'.get? b=some u)(heo:∃u,h'.get? e=some u)
  (new:ObjOk P w (upd H x o') h' x o'):HOk P w (upd H x o') h':=fun b u q=>by
 have nown:∀c y,H c=some (.own y)->c≠x:=fun c y r z=>by subst z;rw[r] at mu;exact mu
 have ntup:∀c xs,H c=some (.tup xs)->c≠x:=fun c xs r z=>by subst z;rw[r] at mu;exact mu
 by_cases hb:b=x
 ·subst hb;rw[aaA] at q;cases q;exact new
 ·rw[aaF hb] at q
  by_cases hbe:b=e
  ·have q':H b=some (.own x):=by
    rcases he with z | z
    ·exact absurd (hbe.trans z) hb
    ·rw[hbe];exact z
   rw[q] at q';cases q'
   obtain⟨v,hv⟩:=heo
   exact⟨v,by rw[hbe];exact hv⟩
  ·refine (ok b u q).stay (fun c v hc r=>k c v ?_ r) (fun c r=>by rw[aaF (nown c b r)];exact r) fun c xs r=>by rw[aaF (ntup c xs r)];exact r
   rcases hc with rfl | hc
   ·exact hbe
   ·rintro rfl
    rcases he with z | z
    ·exact nown c b hc z
    ·rw[hc] at z;cases z;exact hb rfl
end
structure Un(fs ex:List Addr)(H H':Hp)(h h':Heap):Prop where
 keep:∀b o,h.get? b=some o->H b=none->b∉fs->b∉ex->h'.get? b=some o
 slot:∀b o,h.get? b=some o->H b=none->b∈fs->b∉ex->∃sl,h'.get? b=some {o with slots:=sl}
 free:∀b o,h.get? b=some o->H b=none->b∉ex->H' b=none
 there:∀b o,h.get? b=some o->b∉ex->∃o',h'.get? b=some o'
 tups:∀b xs,H b=some (.tup xs)->H' b=some (.tup xs)
 frzs:∀b o u,H b=some (.frz o u)->H' b=some (.frz o u)
 tbls:∀b ps,H b=some (.tbl ps)->∃more,H' b=some (.tbl (ps++more))
section
variable{fs fs' ex ex':List Addr}{H H1 H2:Hp}{h h1 h2 h':Heap}{a x e:Addr}{o:HO}
theorem Un.any(u:Un fs ex H H1 h h1){b:Addr}{ob:Obj}(q:h.get? b=some ob)(n:H b=none)(hx:b∉ex):∃sl,h1.get? b=some {ob with slots:=sl}:=by
 by_cases hb:b∈fs
 ·exact u.slot b ob q n hb hx
 ·exact⟨ob.slots,u.keep b ob q n hb hx⟩
theorem Un.trans(a:Un fs ex H H1 h h1)(b:Un fs ex H1 H2 h1 h2):Un fs ex H H2 h h2 where
 keep:=fun c ob q n hc hx=>b.keep c ob (a.keep c ob q n hc hx) (a.free c ob q n hx) hc hx
 slot:=fun c ob q n hc hx=>by
  obtain⟨sl,e1⟩:=a.slot c ob q n hc hx
  obtain⟨sl',e2⟩:=b.slot c _ e1 (a.free c ob q n hx) hc hx
  exact⟨sl',e2⟩
 free:=fun c ob q n hx=>by
  obtain⟨o',e1⟩:=a.there c ob q hx
  exact b.free c o' e1 (a.free c ob q n hx) hx
 there:=fun c ob q hx=>by
  obtain⟨o',e1⟩:=a.there c ob q hx
  exact b.there c o' e1 hx
 tups:=fun c xs q=>b.tups c xs (a.tups c xs q)
 frzs:=fun c ob xs q=>b.frzs c ob xs (a.frzs c ob xs q)
 tbls:=fun c ps q=>by
  obtain⟨m1,e1⟩:=a.tbls c ps q
  obtain⟨m2,e2⟩:=b.tbls c _ e1
  exact⟨m1++m2,by rw[e2,Array.append_assoc]⟩
theorem Un.kept(k:∀b u,h.get? b=some u->h'.get? b=some u):Un fs ex H H h h':=
 ⟨fun b ob q _ _ _=>k b ob q,fun b ob q _ _ _=>⟨ob.slots,k b ob q⟩,fun _ _ _ n _=>n,fun b ob q _=>⟨ob,k b ob q⟩,fun _ _ q=>q,fun _ _ _ q=>q,fun _ ps q=>⟨#[],by rw[q];simp⟩⟩
theorem Un.refl:Un fs ex H H h h:=Un.kept fun _ _ q=>q
theorem Un.laid(k:∀b u,h.get? b=some u->h'.get? b=some u)(hp:h.objs.size<=a)(hn:H a=none):Un fs ex H (upd H a o) h h' where
 keep:=fun b u q _ _ _=>k b u q
 slot:=fun b u q _ _ _=>⟨u.slots,k b u q⟩
 free:=fun b u q n _=>by rw[aaF (aX (aY (aS q) hp))];exact n
 there:=fun b u q _=>⟨u,k b u q⟩
 tups:=fun b xs q=>by rw[aaF (aaI q hn)];exact q
 frzs:=fun b u xs q=>by rw[aaF (aaI q hn)];exact q
 tbls:=fun b ps q=>⟨#[],by rw[aaF (aaI q hn),q];simp⟩
theorem Un.write(mu:Mut (H x))(he:e=x∨H e=some (.own x))(k:∀b u,b≠e->h.get? b=some u->h'.get? b=some u)(heo:∃u,h'.get? e=some u):Un fs ex H (upd H x o) h h':=by
 have hx:∀b,H b=none->b≠x:=fun b n z=>by subst z;rw[n] at mu;exact mu
 have hb:∀b,H b=none->b≠e:=fun b n z=>by
  subst z
  rcases he with r | r
  ·exact hx b n r
  ·rw[n] at r;cases r
 have hm:∀b u,H b=some u->¬Mut (some u)->b≠x:=fun b u q nm z=>by subst z;rw[q] at mu;exact nm mu
 refine⟨fun b u q n _ _=>k b u (hb b n) q,fun b u q n _ _=>⟨u.slots,k b u (hb b n) q⟩,fun b u q n _=>by rw[aaF (hx b n)];exact n,fun b u q _=>?_,
  fun b xs q=>by rw[aaF (hm b _ q fun z=>z)];exact q,fun b u xs q=>by rw[aaF (hm b _ q fun z=>z)];exact q,fun b ps q=>⟨#[],by rw[aaF (hm b _ q fun z=>z),q];simp⟩⟩
 by_cases hbe:b=e
 ·subst hbe;exact heo
 ·exact⟨u,k b u hbe q⟩
end
noncomputable def trk(h:Heap)(H:Hp):List Addr:=(List.range h.objs.size).filter fun a=>(H a).isSome
noncomputable def aoE(h:Heap)(H:Hp):Heap:=PySem.W.hideAll h (trk h H)
theorem avN(h:Heap)(H:Hp):(aoE h H).objs.size=h.objs.size:=PySem.W.hideAll_size _ _
theorem axO{h:Heap}{H:Hp}{b:Addr}{o:Obj}(e:h.get? b=some o)(n:H b=none):(aoE h H).get? b=some o:=
 PySem.W.hideAll_get _ e fun hm=>by
  have q:(H b).isSome=true:=(List.mem_filter.mp hm).2
  rw[n] at q;simp at q
theorem aAM{h:Heap}{H:Hp}{b:Addr}{o:Obj}(e:(aoE h H).get? b=some o):h.get? b=some o/\H b=none:=by
 have e':h.get? b=some o:=PySem.W.of_hideAll (trk h H) e
 refine⟨e',?_⟩
 cases q:H b with
 |none=>rfl
 |some x=>
  have hm:b∈trk h H:=List.mem_filter.mpr ⟨cR.mpr (aS e'),by simp[q]⟩
  have z:(aoE h H).get? b=none:=PySem.W.hideAll_none (trk h H) hm
  rw[z] at e;cases e
structure Mod(K:FG)(mg:Str->Option Value)(base:Heap):Prop where
 kin:K.In base
 glob:base.Ns mainGlobals mg
 blt:∃mb,base.Ns builtinsNs mb/\∀x:Str,x≠"__name__"->mb x=bootBuiltins x
 nolimit:base.NoLimit
structure Cx where
 prog:Program
 w:World
 K:FG
 mg:Str->Option Value
 base:Heap
 A:Around
 N:List Str
 s₀:Shared
 H₀:Hp
 env:Env
 outer:List Env
 stack:List Env
 ex:List Addr
 fn:Str->Bool
 calm:Bool
 pn:List (Addr×Obj)
 xe:Value->Shared->Prop
noncomputable def frs(l:List Env):List Addr:=l.filterMap (·.frame)
noncomputable abbrev Cx.fs(X:Cx):List Addr:=frs X.outer
noncomputable def Vis(sc:Scope)(x:Str):Prop:=sc.names.lookup x=some .local∨sc.names.lookup x=some .cell∨sc.names.lookup x=some .free
noncomputable def Loc(sc:Scope)(x:Str):Prop:=sc.names.lookup x=some .local∨sc.names.lookup x=some .cell
noncomputable def Look(env:Env)(h:Heap)(m:Str->Option Value)(x:Str)(u:Value):Prop:=
 (env.kindOf x=some .local/\m x=some u)∨((env.kindOf x=some .cell∨env.kindOf x=some .free)/\∃c,env.cells.lookup x=some c/\h.IsCell c (some u))
structure Cx.Ok(X:Cx):Prop where
 mod:Mod X.K X.mg X.base
 kind:X.env.scope.kind=.function
 glob:X.env.globals=mainGlobals
 blt:X.env.builtins=builtinsNs
 above:X.s₀.heap.objs.size<=X.env.locals
 inj:∀x y c,X.env.cells.lookup x=some c->X.env.cells.lookup y=some c->x=y
 has:∀x,(X.env.kindOf x=some .cell∨X.env.kindOf x=some .free)->∃c,X.env.cells.lookup x=some c
 cab:∀x c,X.fn x=true->X.env.cells.lookup x=some c->X.s₀.heap.objs.size<=c
 hd:X.calm=true->X.A.handled=none
 frames:X.A.frames=some X.stack
 stk:X.stack=X.outer∨(X.stack=X.env::X.outer/\X.env.frame=some X.env.locals)
 exf:∀b∈X.ex,b≠X.env.locals/\∀x c,X.env.cells.lookup x=some c->c≠b
 bs:∀b o,X.base.get? b=some o->X.s₀.heap.get? b=some o/\X.H₀ b=none
 bsz:X.base.objs.size<=X.s₀.heap.objs.size
 noex:∀b o,X.base.get? b=some o->b∉X.ex
 exfs:∀b∈X.ex,b∉X.fs
 funs:X.s₀.heap.FunFrames X.base X.outer
 frf:∀b∈X.fs,X.H₀ b=none
structure Inv(X:Cx)(pins:List (Addr×Obj))(σ:List (Option V))(H:Hp)(s:Shared):Prop where
 ok:X.Ok
 os:s.os=X.s₀.os
 bare:AllBare s.gens
 base:Un X.fs X.ex X.H₀ H X.s₀.heap s.heap
 loc:∃m,s.heap.Ns X.env.locals m/\∀(i:Nat) (x:Str) (v:V),X.N[i]? =some x->σ[i]? =some (some v)->Vis X.env.scope x->∃u,RelV v u/\Look X.env s.heap m x u
 cell:∀x c,X.env.cells.lookup x=some c->∃v,s.heap.IsCell c v
 free:H X.env.locals=none
 freeC:∀x c,X.env.cells.lookup x=some c->H c=none
 pin:∀p∈X.pn++pins,s.heap.get? p.1=some p.2/\H p.1=none/\p.1≠X.env.locals/\p.1∉X.fs/\∀v,p.2.data≠ .cell v
 hok:HOk X.prog X.w H s.heap
 len:σ.length=X.N.length
section
variable{X:Cx}{pins:List (Addr×Obj)}{σ:List (Option V)}{H H':Hp}{s:Shared}{h':Heap}
theorem Cx.Ok.nofr(ok:X.Ok){b:Addr}{o:Obj}(e:X.base.get? b=some o):b∉X.fs:=fun hb=>by
 have:=(ok.funs.mem hb).1
 rw[e] at this;cases this
theorem Inv.bs(I:Inv X pins σ H s):∀b o,X.base.get? b=some o->s.heap.get? b=some o/\H b=none:=fun b o e=>
 ⟨I.base.keep b o (I.ok.bs b o e).1 (I.ok.bs b o e).2 (I.ok.nofr e) (I.ok.noex b o e),I.base.free b o (I.ok.bs b o e).1 (I.ok.bs b o e).2 (I.ok.noex b o e)⟩
theorem Inv.bk(I:Inv X pins σ H s):∀b o,X.base.get? b=some o->s.heap.get? b=some o:=fun b o e=>(I.bs b o e).1
theorem Inv.mod(I:Inv X pins σ H s):Mod X.K X.mg X.base:=I.ok.mod
theorem Inv.kIn(I:Inv X pins σ H s):X.K.In s.heap:=I.ok.mod.kin.keeps I.bk
theorem Inv.nolimit(I:Inv X pins σ H s):s.heap.NoLimit:=I.ok.mod.nolimit.keeps I.bk
theorem Inv.lt(I:Inv X pins σ H s):X.env.locals<s.heap.objs.size:=let ⟨_,hn,_⟩:=I.loc;hn.lt
theorem Inv.sz(I:Inv X pins σ H s):X.s₀.heap.objs.size<=s.heap.objs.size:=bE I.ok.above (Nat.le_of_lt I.lt)
theorem Inv.nofs(I:Inv X pins σ H s){a:Addr}(h:s.heap.objs.size<=a):a∉X.fs:=fun hb=>by
 obtain⟨_,o,ho,_⟩:=I.ok.funs.mem hb
 exact absurd (aY (aS ho) (bE I.sz h)) (cD _)
theorem Inv.cne(I:Inv X pins σ H s):∀x c,X.env.cells.lookup x=some c->c≠X.env.locals:=fun x c e z=>by
 obtain⟨v,o,ho,hd⟩:=I.cell x c e
 obtain⟨m,⟨o',es,ep,ho',hd',_⟩,_⟩:=I.loc
 rw[z,ho'] at ho;cases ho;rw[hd'] at hd;cases hd
theorem Inv.funs(I:Inv X pins σ H s):s.heap.FunFrames X.base X.outer:=by
 have all:∀(l:List Env),(∀b∈frs l,b∈X.fs)->X.s₀.heap.FunFrames X.base l->s.heap.FunFrames X.base l:=by
  intro l
  induction l with
  |nil=>intro _ _;trivial
  |cons env r ih=>
   intro hs hl
   obtain⟨hk,⟨L,o,hf,hn,ho,hd⟩,hr⟩:=hl
   have hL:L∈X.fs:=hs L (by unfold frs;rw[cV,hf];exact bX)
   obtain⟨sl,e⟩:=I.base.slot L o ho (I.ok.frf L hL) hL fun z=>I.ok.exfs L z hL
   exact⟨hk,⟨L,_,hf,hn,e,hd⟩,ih (fun b hb=>hs b (by unfold frs;rw[cV,hf];exact bY _ hb)) hr⟩
 exact all X.outer (fun _ hb=>hb) I.ok.funs
theorem Inv.stack(I:Inv X pins σ H s):s.heap.FunFrames X.base X.stack:=by
 rcases I.ok.stk with e | ⟨e,hf⟩
 ·rw[e];exact I.funs
 ·rw[e]
  obtain⟨m,hn,_⟩:=I.loc
  refine .cons (by rw[I.ok.kind];decide) hf hn ?_ I.funs
  exact Heap.get?_none_of_le (bE I.ok.bsz I.ok.above)
theorem Inv.stkSub(I:Inv X pins σ H s):∀b∈frs X.stack,b∈X.env.locals::X.fs:=fun b hb=>by
 rcases I.ok.stk with e | ⟨e,hf⟩
 ·rw[e] at hb;exact bY _ hb
 ·rw[e] at hb
  unfold frs at hb
  rw[cV,hf] at hb
  exact hb
theorem Inv.stkFree(I:Inv X pins σ H s):∀b∈frs X.stack,H b=none:=fun b hb=>by
 rcases aW.mp (I.stkSub b hb) with e | hb
 ·rw[e];exact I.free
 ·obtain⟨_,o,ho,_⟩:=I.ok.funs.mem hb
  exact I.base.free b o ho (I.ok.frf b hb) fun z=>I.ok.exfs b z hb
theorem Inv.step{g':Array GenState}{t':Nat}{d':Drawn}{ch:List Addr}(I:Inv X pins σ H s)
  (hch:∀b∈ch,(b∈X.ex∨X.s₀.heap.objs.size<=b)/\b≠X.env.locals/\(∀x c,X.env.cells.lookup x=some c->c≠b)/\∀p∈X.pn++pins,p.1≠b)
  (keep:∀b o,b≠X.env.locals->b∉X.fs->b∉ch->s.heap.get? b=some o->H b=none->h'.get? b=some o)
  (slot:∀b o,b≠X.env.locals->b∈X.fs->b∉ch->s.heap.get? b=some o->H b=none->∃sl,h'.get? b=some {o with slots:=sl}) (free:∀b o,b∉ch->s.heap.get? b=some o->H b=none->H' b=none)
  (there:∀b o,b∉ch->s.heap.get? b=some o->∃o',h'.get? b=some o')
  (tups:∀b xs,H b=some (.tup xs)->H' b=some (.tup xs)) (frzs:∀b o u,H b=some (.frz o u)->H' b=some (.frz o u)) (tbls:∀b ps,H b=some (.tbl ps)->∃more,H' b=some (.tbl (ps++more)))
  (ns:∀m,s.heap.Ns X.env.locals m->h'.Ns X.env.locals m) (hok:HOk X.prog X.w H' h') (hg:AllBare g'):
  Inv X pins σ H' {s with heap:=h',gens:=g',drawn:=d',toks:=t'}:=by
 have neL:∀b o,X.s₀.heap.get? b=some o->b≠X.env.locals:=fun b o e=>aX (aY (aS e) I.ok.above)
 have neC:∀b o,X.s₀.heap.get? b=some o->b∉X.ex->b∉ch:=fun b o e hx hb=>by
  rcases (hch b hb).1 with z | z
  ·exact hx z
  ·exact absurd (aY (aS e) z) (cD _)
 have cellK:∀x c,X.env.cells.lookup x=some c->∀v,s.heap.IsCell c v->h'.IsCell c v:=fun x c e v ⟨o,ho,hd⟩=>by
  have nch:c∉ch:=fun z=>(hch c z).2.2.1 x c e rfl
  by_cases hc:c∈X.fs
  ·obtain⟨sl,q⟩:=slot c o (I.cne x c e) hc nch ho (I.freeC x c e)
   exact⟨_,q,hd⟩
  ·exact⟨o,keep c o (I.cne x c e) hc nch ho (I.freeC x c e),hd⟩
 refine⟨I.ok,I.os,hg,⟨fun b o e n hb hx=>?_,fun b o e n hb hx=>?_,fun b o e n hx=>?_,fun b o e hx=>?_,fun b xs e=>tups b xs (I.base.tups b xs e),fun b o xs e=>frzs b o xs (I.base.frzs b o xs e),fun b ps e=>?_⟩,?_,fun x c e=>?_,?_,fun x c e=>?_,fun p hp=>?_,hok,I.len⟩
 ·exact keep b o (neL b o e) hb (neC b o e hx) (I.base.keep b o e n hb hx) (I.base.free b o e n hx)
 ·obtain⟨sl,e1⟩:=I.base.slot b o e n hb hx
  obtain⟨sl',e2⟩:=slot b _ (neL b o e) hb (neC b o e hx) e1 (I.base.free b o e n hx)
  exact⟨sl',e2⟩
 ·obtain⟨o',e1⟩:=I.base.there b o e hx
  exact free b o' (neC b o e hx) e1 (I.base.free b o e n hx)
 ·obtain⟨o',e1⟩:=I.base.there b o e hx
  exact there b o' (neC b o e hx) e1
 ·obtain⟨m1,e1⟩:=I.base.tbls b ps e
  obtain⟨m2,e2⟩:=tbls b _ e1
  exact⟨m1++m2,by rw[e2,Array.append_assoc]⟩
 ·obtain⟨m,hn,hl⟩:=I.loc
  refine⟨m,ns m hn,fun i x v e1 e2 e3=>?_⟩
  obtain⟨u,r,l⟩:=hl i x v e1 e2 e3
  refine⟨u,r,?_⟩
  rcases l with l | ⟨k,c,e,z⟩
  ·exact .inl l
  ·exact .inr ⟨k,c,e,cellK x c e _ z⟩
 ·obtain⟨v,z⟩:=I.cell x c e
  exact⟨v,cellK x c e v z⟩
 ·obtain⟨m,⟨o,_,_,ho,_⟩,_⟩:=I.loc
  exact free _ o (fun z=>(hch _ z).2.1 rfl) ho I.free
 ·obtain⟨v,o,ho,hd⟩:=I.cell x c e
  exact free c o (fun z=>(hch c z).2.2.1 x c e rfl) ho (I.freeC x c e)
 ·obtain⟨e,n,ne,nf,d⟩:=I.pin p hp
  have nch:p.1∉ch:=fun z=>(hch p.1 z).2.2.2 p hp rfl
  exact⟨keep p.1 p.2 ne nf nch e n,free p.1 p.2 nch e n,ne,nf,d⟩
theorem Inv.un{t':Nat}(I:Inv X pins σ H s)(u:Un X.fs [] H H' s.heap h')(hok:HOk X.prog X.w H' h'):Inv X pins σ H' {s with heap:=h',toks:=t'}:=by
 obtain⟨m,⟨o,es,ep,ho,r⟩,_⟩:=id I.loc
 obtain⟨sl,hL⟩:=u.any ho I.free (by simp)
 exact I.step (g':=s.gens) (d':=s.drawn) (ch:=[]) (fun _ z=>nomatch z) (fun b o _ hb _ e n=>u.keep b o e n hb (by simp)) (fun b o _ hb _ e n=>u.slot b o e n hb (by simp)) (fun b o _ e n=>u.free b o e n (by simp)) (fun b o _ e=>u.there b o e (by simp)) u.tups u.frzs u.tbls (fun m' hm=>by
  obtain⟨o',es',ep',ho',r'⟩:=hm
  rw[ho] at ho';cases ho'
  exact⟨_,es',ep',hL,r'⟩) hok I.bare
theorem Inv.call{g':Array GenState}{t':Nat}{d':Drawn}{ch:List Addr}(I:Inv X pins σ H s)(u:Un (frs X.stack) ch H H' s.heap h')(hok:HOk X.prog X.w H' h')(hg:AllBare g')
  (hch:∀b∈ch,(b∈X.ex∨X.s₀.heap.objs.size<=b)/\b≠X.env.locals/\(∀x c,X.env.cells.lookup x=some c->c≠b)/\∀p∈X.pn++pins,p.1≠b):
  Inv X pins σ H' {s with heap:=h',gens:=g',drawn:=d',toks:=t'}:=by
 obtain⟨m,⟨o,es,ep,ho,r⟩,_⟩:=id I.loc
 obtain⟨sl,hL⟩:=u.any ho I.free fun z=>(hch _ z).2.1 rfl
 exact I.step (ch:=ch) hch (fun b o hL hb hc e n=>u.keep b o e n (fun z=>(aW.mp (I.stkSub b z)).elim hL hb) hc) (fun b o _ _ hc e n=>u.any e n hc) (fun b o hc e n=>u.free b o e n hc) (fun b o hc e=>u.there b o e hc) u.tups u.frzs u.tbls (fun m' hm=>by
  obtain⟨o',es',ep',ho',r'⟩:=hm
  rw[ho] at ho';cases ho'
  exact⟨_,es',ep',hL,r'⟩) hok hg
theorem Inv.turned{t':Nat}{it:Addr}(I:Inv X pins σ H s)(k:∀b o,b≠it->s.heap.get? b=some o->h'.get? b=some o)(hn:H it=none)(hL:it≠X.env.locals)
  (h1:it∈X.ex∨X.s₀.heap.objs.size<=it) (h2:∀x c,X.env.cells.lookup x=some c->c≠it) (h3:∀p∈X.pn++pins,p.1≠it):Inv X pins σ H {s with heap:=h',toks:=t'}:=by
 have nit:∀b u,H b=some u->b≠it:=fun b u e z=>by rw[z,hn] at e;cases e
 refine I.step (g':=s.gens) (d':=s.drawn) (ch:=[it]) (fun b hb=>?_) (fun b o _ _ hc e _=>k b o (fun z=>hc (by simp[z])) e) (fun b o _ _ hc e _=>⟨o.slots,k b o (fun z=>hc (by simp[z])) e⟩) (fun _ _ _ _ n=>n)
  (fun b o hc e=>⟨o,k b o (fun z=>hc (by simp[z])) e⟩) (fun _ _ e=>e) (fun _ _ _ e=>e) (fun b ps e=>⟨#[],by rw[e];simp⟩) (fun m hm=>?_) (fun b u e=>?_) I.bare
 ·have e:b=it:=by simpa using hb
  subst e
  exact⟨h1,hL,h2,h3⟩
 ·obtain⟨o,es,ep,ho,r⟩:=hm
  exact⟨o,es,ep,k _ o (Ne.symm hL) ho,r⟩
 ·refine (I.hok b u e).stay (fun c v hc q=>k c v ?_ q) (fun _ q=>q) fun _ _ q=>q
  rcases hc with z | z
  ·rw[z];exact nit b u e
  ·exact nit c _ z
theorem Inv.tok(I:Inv X pins σ H s)(t:Nat):Inv X pins σ H {s with toks:=t}:=I.un (h':=s.heap) (t':=t) Un.refl I.hok
theorem Inv.kept{t':Nat}(I:Inv X pins σ H s)(k:∀b u,s.heap.get? b=some u->h'.get? b=some u):Inv X pins σ H {s with heap:=h',toks:=t'}:=I.un (Un.kept k) (I.hok.kept k)
theorem Inv.laid{a:Addr}{o:HO}{t':Nat}(I:Inv X pins σ H s)(k:∀b u,s.heap.get? b=some u->h'.get? b=some u)(hp:s.heap.objs.size<=a)(new:ObjOk X.prog X.w (upd H a o) h' a o):
  Inv X pins σ (upd H a o) {s with heap:=h',toks:=t'}:=I.un (Un.laid k hp (I.hok.fresh hp)) (I.hok.laid k hp new)
theorem Inv.write{x e:Addr}{o:HO}{t':Nat}(I:Inv X pins σ H s)(mu:Mut (H x))(he:e=x∨H e=some (.own x))(k:∀b u,b≠e->s.heap.get? b=some u->h'.get? b=some u)(heo:∃u,h'.get? e=some u)
  (new:ObjOk X.prog X.w (upd H x o) h' x o):Inv X pins σ (upd H x o) {s with heap:=h',toks:=t'}:=I.un (Un.write mu he k heo) (I.hok.write mu he k heo new)
theorem Inv.pins_of{pins':List (Addr×Obj)}(I:Inv X pins σ H s)(h:∀p∈pins',s.heap.get? p.1=some p.2/\H p.1=none/\p.1≠X.env.locals/\p.1∉X.fs/\∀v,p.2.data≠ .cell v):Inv X pins' σ H s:=
 ⟨I.ok,I.os,I.bare,I.base,I.loc,I.cell,I.free,I.freeC,fun p hp=>(bH.mp hp).elim (fun z=>I.pin p (List.mem_append_left _ z)) (h p),I.hok,I.len⟩
theorem arC{N:List Str}(hN:N.Nodup){i j:Nat}{x:Str}(a:N[i]? =some x)(b:N[j]? =some x):i=j:=by
 obtain⟨h1,e1⟩:=cT.mp a
 obtain⟨h2,e2⟩:=cT.mp b
 exact (List.getElem_inj hN).mp (e1.trans e2.symm)
theorem anQ{M:Model}{A:Around}{E:Value->Shared->Prop}{i:Nat}{x:Str}{v:V}{u:Value}{Q:Unit->Shared->Prop}(I:Inv X pins σ H s)(hN:X.N.Nodup)(hi:X.N[i]? =some x)(hx:Loc X.env.scope x)(r:RelV v u)
  (h:∀s',Inv X pins (σ.set i (some v)) H s'->(∃a,Heap.SameBut a s.heap s'.heap/\(a=X.env.locals∨X.env.cells.lookup x=some a))->Q () s') (hf:X.fn x=true∨X.env.scope.names.lookup x=some .local:=by first | exact .inl rfl | exact .inr rfl | assumption):wpAny M A (storeName X.env x u) Q E s:=by
 obtain⟨m,hn,hl⟩:=id I.loc
 have hcls:(X.env.scope.kind== .class||(X.env.scope.kind== .module&&X.env.locals !=X.env.globals))=false:=by rw[I.ok.kind];rfl
 have hiσ:i<σ.length:=by rw[I.len];exact (cT.mp hi).1
 have cne:=I.cne
 have tracked:∀{a:Addr} {h':Heap},(∃o,s.heap.get? a=some o/\H a=none)->Heap.SameBut a s.heap h'->HOk X.prog X.w H h':=fun {a h'} ha hs b ob e=>by
  obtain⟨_,_,hfree⟩:=ha
  refine (I.hok b ob e).stay (fun c w' hc q=>(hs.2 c ?_).trans q) (fun _ q=>q) fun _ _ q=>q
  rintro rfl
  rcases hc with rfl | hc
  ·rw[hfree] at e;cases e
  ·rw[hfree] at hc;cases hc
 rcases hx with hk | hk
 ·refine wpAny_storeName_local hk hn (fun h' hn' hs=>?_) hcls
  obtain⟨oL,_,_,hoL,_⟩:=id hn
  refine h _ ⟨I.ok,I.os,I.bare,⟨fun b o e n hb hx=>?_,fun b o e n hb hx=>?_,I.base.free,fun b o e hx=>?_,I.base.tups,I.base.frzs,I.base.tbls⟩,⟨_,hn',fun j y v' e1 e2 e3=>?_⟩,fun y c e=>?_,I.free,I.freeC,fun p hp=>?_,tracked ⟨oL,hoL,I.free⟩ hs,by simpa using I.len⟩ ⟨_,hs,.inl rfl⟩
  ·exact (hs.2 b (aX (aY (aS e) I.ok.above))).trans (I.base.keep b o e n hb hx)
  ·obtain⟨sl,e1⟩:=I.base.slot b o e n hb hx
   exact⟨sl,(hs.2 b (aX (aY (aS e) I.ok.above))).trans e1⟩
  ·obtain⟨o',e1⟩:=I.base.there b o e hx
   exact⟨o',(hs.2 b (aX (aY (aS e) I.ok.above))).trans e1⟩
  ·by_cases hj:j=i
   ·subst hj
    rw[hi] at e1;cases e1
    rw[List.getElem?_set_self hiσ] at e2
    cases e2
    exact⟨u,r,.inl ⟨hk,by simp⟩⟩
   ·rw[List.getElem?_set_ne (Ne.symm hj)] at e2
    obtain⟨u',r',q⟩:=hl j y v' e1 e2 e3
    refine⟨u',r',?_⟩
    rcases q with ⟨k,e⟩ | ⟨k,c,e,z⟩
    ·refine .inl ⟨k,?_⟩
     have:y≠x:=fun e=>hj (arC hN e1 (e▸hi))
     simp[this,e]
    ·exact .inr ⟨k,c,e,z.sameBut hs (cne y c e)⟩
  ·obtain⟨w',z⟩:=I.cell y c e
   exact⟨w',z.sameBut hs (cne y c e)⟩
  ·obtain⟨e,n,ne,nf,d⟩:=I.pin p hp
   exact⟨(hs.2 p.1 ne).trans e,n,ne,nf,d⟩
 ·have hfn:X.fn x=true:=by
   rcases hf with z | z
   ·exact z
   ·rw[z] at hk;cases hk
  obtain⟨c,hc⟩:=I.ok.has x (.inl hk)
  obtain⟨w',z⟩:=I.cell x c hc
  refine wpAny_storeName_cell I.ok.kind hk hc z (fun h' hc' hs=>?_)
  obtain⟨oc,hoc,hocd⟩:=id z
  refine h {s with heap:=h'} ⟨I.ok,I.os,I.bare,⟨fun b o e n hb hx=>?_,fun b o e n hb hx=>?_,I.base.free,fun b o e hx=>?_,I.base.tups,I.base.frzs,I.base.tbls⟩,⟨m,hn.sameBut hs (Ne.symm (cne x c hc)),fun j y v' e1 e2 e3=>?_⟩,fun y c' e=>?_,I.free,I.freeC,fun p hp=>?_,tracked ⟨oc,hoc,I.freeC x c hc⟩ hs,by simpa using I.len⟩ ⟨c,hs,.inr hc⟩
  ·exact (hs.2 b (aX (aY (aS e) (I.ok.cab x c hfn hc)))).trans (I.base.keep b o e n hb hx)
  ·obtain⟨sl,e1⟩:=I.base.slot b o e n hb hx
   exact⟨sl,(hs.2 b (aX (aY (aS e) (I.ok.cab x c hfn hc)))).trans e1⟩
  ·obtain⟨o',e1⟩:=I.base.there b o e hx
   exact⟨o',(hs.2 b (aX (aY (aS e) (I.ok.cab x c hfn hc)))).trans e1⟩
  ·by_cases hj:j=i
   ·subst hj
    rw[hi] at e1;cases e1
    rw[List.getElem?_set_self hiσ] at e2
    cases e2
    exact⟨u,r,.inr ⟨.inl hk,c,hc,hc'⟩⟩
   ·rw[List.getElem?_set_ne (Ne.symm hj)] at e2
    obtain⟨u',r',q⟩:=hl j y v' e1 e2 e3
    refine⟨u',r',?_⟩
    rcases q with q | ⟨k,c',e,z'⟩
    ·exact .inl q
    ·refine .inr ⟨k,c',e,z'.sameBut hs ?_⟩
     rintro rfl
     exact hj (arC hN e1 (I.ok.inj _ _ _ e hc▸hi))
  ·by_cases hcc:c'=c
   ·subst hcc;exact⟨_,hc'⟩
   ·obtain⟨w2,z2⟩:=I.cell y c' e
    exact⟨w2,z2.sameBut hs hcc⟩
  ·obtain⟨e,n,ne,nf,d⟩:=I.pin p hp
   refine⟨(hs.2 p.1 ?_).trans e,n,ne,nf,d⟩
   intro q
   rw[q,hoc] at e
   have q':oc=p.2:=a8 e
   exact d w' (by rw[←q'];exact hocd)
theorem aeH{M:Model}{A:Around}{E:Value->Shared->Prop}{i:Nat}{x:Str}{v:V}{u:Value}{Q:Unit->Shared->Prop}(I:Inv X pins σ H s)(hN:X.N.Nodup)(hi:X.N[i]? =some x)(hx:Loc X.env.scope x)(r:RelV v u)
  (h:∀s',Inv X pins (σ.set i (some v)) H s'->Q () s') (hf:X.fn x=true∨X.env.scope.names.lookup x=some .local:=by first | exact .inl rfl | exact .inr rfl | assumption):wpAny M A (storeName X.env x u) Q E s:=
 anQ I hN hi hx r (fun s' I' _=>h s' I') hf
theorem Inv.call'{s':Shared}{ch:List Addr}(I:Inv X pins σ H s)(ho:s'.os=s.os)(u:Un (frs X.stack) ch H H' s.heap s'.heap)(hok:HOk X.prog X.w H' s'.heap)(hg:AllBare s'.gens)
  (hch:∀b∈ch,(b∈X.ex∨X.s₀.heap.objs.size<=b)/\b≠X.env.locals/\(∀x c,X.env.cells.lookup x=some c->c≠b)/\∀p∈X.pn++pins,p.1≠b):Inv X pins σ H' s':=by
 obtain⟨h',g',d',t',o'⟩:=s'
 have e:o'=s.os:=ho
 subst e
 exact I.call (g':=g') (t':=t') (d':=d') u hok hg hch
end
noncomputable abbrev XK:=Value->Option Addr->Hp->Prop
noncomputable abbrev St:=List (Option V)
noncomputable abbrev VK:=V->Hp->Prop
noncomputable abbrev TE:=St->Hp->VK->Prop
noncomputable abbrev TT:=St->Hp->(Bool->Hp->Prop)->Prop
noncomputable abbrev TA:=St->Hp->(List V->Hp->Prop)->Prop
structure Ends where
 nx:St->Hp->Prop
 rt:VK
 bk:St->Hp->Prop:=fun _ _=>False
 ct:St->Hp->Prop:=fun _ _=>False
noncomputable abbrev TS:=Ends->St->Hp->Prop
noncomputable def EP(X:Cx)(pins:List (Addr×Obj))(σ:St)(Q:VK)(u:Value)(s':Shared):Prop:=∃v H',Inv X pins σ H' s'/\RelV v u/\Q v H'
noncomputable def TP(X:Cx)(pins:List (Addr×Obj))(σ:St)(Q:Bool->Hp->Prop)(b:Bool)(s':Shared):Prop:=∃H',Inv X pins σ H' s'/\Q b H'
noncomputable def AP(X:Cx)(pins:List (Addr×Obj))(σ:St)(Q:List V->Hp->Prop)(us:List Value)(s':Shared):Prop:=∃vs H',Inv X pins σ H' s'/\Vals vs us/\Q vs H'
noncomputable def SP(X:Cx)(pins:List (Addr×Obj))(D:Ends)(f:Flow)(s':Shared):Prop:=
 match f with
 |.next=>∃σ' H',Inv X pins σ' H' s'/\D.nx σ' H'
 |.brk=>∃σ' H',Inv X pins σ' H' s'/\D.bk σ' H'
 |.cont=>∃σ' H',Inv X pins σ' H' s'/\D.ct σ' H'
 |.ret u=>∃v σ' H',Inv X pins σ' H' s'/\RelV v u/\D.rt v H'
noncomputable def PE(X:Cx)(e:Expr)(t:TE):Prop:=
 ∀(pins:List (Addr×Obj)) (s:Shared) (σ:St) (H:Hp) (Q:VK),Inv X pins σ H s->t σ H Q->wpAny (model X.prog X.w) X.A (eval e X.env) (EP X pins σ Q) X.xe s
noncomputable def PT(X:Cx)(e:Expr)(t:TT):Prop:=
 ∀(pins:List (Addr×Obj)) (s:Shared) (σ:St) (H:Hp) (Q:Bool->Hp->Prop),Inv X pins σ H s->t σ H Q->wpAny (model X.prog X.w) X.A (isTrue e X.env (eval e X.env)) (TP X pins σ Q) X.xe s
noncomputable def PW(X:Cx)(e:Expr)(t:TT):Prop:=
 ∀(whole:Sem Value) (pins:List (Addr×Obj)) (s:Shared) (σ:St) (H:Hp) (Q:Bool->Hp->Prop),Inv X pins σ H s->t σ H Q->wpAny (model X.prog X.w) X.A (isTrue e X.env whole) (TP X pins σ Q) X.xe s
theorem PW.pt{X:Cx}{e:Expr}{t:TT}(h:PW X e t):PT X e t:=h _
noncomputable def PA(X:Cx)(es:List Expr)(t:TA):Prop:=
 ∀(pos:Pos) (pins:List (Addr×Obj)) (s:Shared) (σ:St) (H:Hp) (Q:List V->Hp->Prop),Inv X pins σ H s->t σ H Q->wpAny (model X.prog X.w) X.A (spliced (backTo pos (starEach es X.env))) (AP X pins σ Q) X.xe s
noncomputable def PS(X:Cx)(st:Stmt)(t:TS):Prop:=
 ∀(pins:List (Addr×Obj)) (s:Shared) (σ:St) (H:Hp) (D:Ends),Inv X pins σ H s->t D σ H->wpAny (model X.prog X.w) X.A (exec st X.env) (SP X pins D) X.xe s
noncomputable def PSs(X:Cx)(st:List Stmt)(t:TS):Prop:=
 ∀(pins:List (Addr×Obj)) (s:Shared) (σ:St) (H:Hp) (D:Ends),Inv X pins σ H s->t D σ H->wpAny (model X.prog X.w) X.A (execs st X.env) (SP X pins D) X.xe s
theorem thn{α:Type}{t:Sem α}{Q Q':α->Shared->Prop}{M:Model}{A:Around}{E:Value->Shared->Prop}{s:Shared}(h:wpAny M A t Q E s)(hQ:∀a s,Q a s->Q' a s):wpAny M A t Q' E s:=dM h hQ fun _ _ x=>x
section
variable{X:Cx}
noncomputable def aBG(i:Nat):TE:=fun σ H Q=>∃v,σ[i]? =some (some v)/\Q v H
noncomputable def tC(v:V):TE:=fun _ H Q=>Q v H
theorem aF4{i:Nat}{x:Str}{pos:Pos}(hN:X.N[i]? =some x)(hv:Vis X.env.scope x)(hd:(x==("__debug__":Str))=false:=by decide)(hcd:(x==("__classdict__":Str))=false:=by decide):PE X (.Name x pos) (aBG i):=by
 intro pins s σ H Q I h
 obtain⟨v,e,h⟩:=h
 obtain⟨m,hn,hl⟩:=I.loc
 obtain⟨u,r,l⟩:=hl i x v hN e hv
 have fin:EP X pins σ Q u s:=⟨v,H,I,r,h⟩
 rcases l with ⟨hk,hm⟩ | ⟨hk,c,hc,hcell⟩
 ·exact wpAny_Name (wpAny_loadName_local I.ok.kind hk hn hm fin) hd
 ·rcases hk with hk | hk
  ·exact wpAny_Name (wpAny_loadName_cell I.ok.kind hk hc hcell fin) hd
  ·exact wpAny_Name (wpAny_loadName_free I.ok.kind hk hc hcell fin hcd) hd
theorem axS{i j pos}:PE X (.Constant (.int i) j pos) (tC (.int i)):=fun _ _ _ H _ I h=>wpAny_Constant_int ⟨.int i,H,I.tok _,⟨_,rfl⟩,h⟩
theorem aMK{b j pos}:PE X (.Constant (.bool b) j pos) (tC (.bl b)):=fun _ _ _ H _ I h=>Constant_bool ⟨.bl b,H,I,rfl,h⟩
theorem aD1{j pos}:PE X (.Constant .none j pos) (tC .non):=fun _ _ _ H _ I h=>Constant_none ⟨.non,H,I,rfl,h⟩
theorem axE{x j pos}:PE X (.Constant (.str x) j pos) (tC (.str x)):=fun _ _ _ H _ I h=>Calls.Constant_str ⟨.str x,H,I.tok _,⟨_,rfl⟩,h⟩
noncomputable def Gl(X:Cx)(x:Str):Prop:=X.env.kindOf x=some .globalImplicit
theorem adJ{E:Value->Shared->Prop}{pins:List (Addr×Obj)}{s:Shared}{σ:St}{H:Hp}{x:Str}{u:Value}{pos:Pos}{Q:Value->Shared->Prop}(I:Inv X pins σ H s)(hg:Gl X x)(hm:X.mg x=some u)(h:Q u s)
  (hd:(x==("__debug__":Str))=false:=by decide):wpAny (model X.prog X.w) X.A (eval (.Name x pos) X.env) Q E s:=
 Calls.Name_function_global I.ok.kind hg (Calls.loadGlobal_global (by rw[I.ok.glob];exact I.mod.glob.keeps I.bk) hm h) hd
theorem ahS{E:Value->Shared->Prop}{pins:List (Addr×Obj)}{s:Shared}{σ:St}{H:Hp}{x:Str}{u:Value}{pos:Pos}{Q:Value->Shared->Prop}(I:Inv X pins σ H s)(hg:Gl X x)(hm:X.mg x=none)(hv:bootBuiltins x=some u)(h:Q u s)
  (hn:x≠"__name__":=by decide) (hd:(x==("__debug__":Str))=false:=by decide):wpAny (model X.prog X.w) X.A (eval (.Name x pos) X.env) Q E s:=by
 obtain⟨mb,h1,h2⟩:=I.mod.blt
 exact Calls.Name_function_global I.ok.kind hg (Calls.loadGlobal_builtin (by rw[I.ok.glob];exact I.mod.glob.keeps I.bk) hm (by rw[I.ok.blt];exact h1.keeps I.bk) ((h2 x hn).trans hv) h) hd
theorem aBW{x:Str}{v:V}{u:Value}{pos:Pos}(hg:Gl X x)(hm:X.mg x=some u)(r:RelV v u)(hd:(x==("__debug__":Str))=false:=by decide):PE X (.Name x pos) (tC v):=
 fun _ _ _ H _ I h=>adJ I hg hm ⟨v,H,I,r,h⟩ hd
theorem aAE{x:Str}{v:V}{u:Value}{pos:Pos}(hg:Gl X x)(hm:X.mg x=none)(hv:bootBuiltins x=some u)(r:RelV v u)(hn:x≠"__name__":=by decide)(hd:(x==("__debug__":Str))=false:=by decide):PE X (.Name x pos) (tC v):=
 fun _ _ _ H _ I h=>ahS I hg hm hv ⟨v,H,I,r,h⟩ hn hd
variable{a b:Expr}{ta tb:TE}{pos:Pos}
noncomputable def PC(X:Cx)(op:CmpOp)(a b:Expr)(t:TE):Prop:=
 ∀(pins:List (Addr×Obj)) (s:Shared) (σ:St) (H:Hp) (Q:VK),Inv X pins σ H s->t σ H Q->
  wpAny (model X.prog X.w) X.A (eval a X.env) (fun v s₁=>wpAny (model X.prog X.w) X.A (eval b X.env) (fun u s₂=>wpAny (model X.prog X.w) X.A (compareOp op v u) (EP X pins σ Q) X.xe s₂) X.xe s₁) X.xe s
theorem ayI(b:Expr){op:CmpOp}(h:op≠ .In)(h2:op≠ .NotIn):behindInMarks op b=false:=by
 have e1:(op==CmpOp.In)=false:=by cases op<;>first | rfl | exact absurd rfl h
 have e2:(op==CmpOp.NotIn)=false:=by cases op<;>first | rfl | exact absurd rfl h2
 cases b<;>simp[behindInMarks,e1,e2]
noncomputable def tB(t:TE):TT:=fun σ H Q=>t σ H fun x H1=>∃c,x=.bl c/\Q c H1
theorem aEX{op:CmpOp}{t:TE}(h:PC X op a b t)(h1:behindInMarks op b=false:=by first | exact ayI _ (by decide) (by decide) | rfl):PT X (.Compare a [op] [b] pos) (tB t):=by
 intro pins s σ H Q I hw
 refine wpAny_isTrue_Compare1 (thn (h pins s σ H _ I hw) fun v s1 h1=>thn h1 fun u s2 h2=>thn h2 fun c s3 ⟨x,H1,I1,r1,q1⟩=>?_) h1
 obtain⟨d,rfl,q⟩:=q1
 cases r1
 exact dY ⟨H1,I1,q⟩
theorem aEL{e:Expr}{t:TE}(h:PE X e t)(he:∀whole,isTrue e X.env whole=(do let v ←whole;standAt e.pos;holding [v] (truthy v)):=by intro _;rfl):PT X e (tB t):=by
 intro pins s σ H Q I hw
 refine isTrue_plain (thn (h pins s σ H _ I hw) fun v s1 ⟨x,H1,I1,r1,q1⟩=>?_) (he _)
 obtain⟨d,rfl,q⟩:=q1
 cases r1
 exact dY ⟨H1,I1,q⟩
variable{tA tB':TT}{rest:List Expr}
noncomputable def aNW(t u:TT):TT:=fun σ H Q=>t σ H fun c H1=>if c=true then u σ H1 Q else Q false H1
noncomputable def tOr(t u:TT):TT:=fun σ H Q=>t σ H fun c H1=>if c=true then Q true H1 else u σ H1 Q
noncomputable def aKG(t:TT):TT:=fun σ H Q=>t σ H fun c H1=>Q (!c) H1
theorem aAD(ha:PT X a tA):PW X (.BoolOp .And [a] pos) tA:=by
 intro wh pins s σ H Q I h
 refine isTrue_and (thn (ha pins s σ H Q I h) fun c s1 e=>?_)
 cases c with
 |true=>exact isTrue_and_nil e
 |false=>exact e
theorem aEH(ha:PT X a tA):PW X (.BoolOp .Or [a] pos) tA:=by
 intro wh pins s σ H Q I h
 refine isTrue_or (thn (ha pins s σ H Q I h) fun c s1 e=>?_)
 cases c with
 |false=>exact isTrue_or_nil e
 |true=>exact e
theorem aF3(ha:PT X a tA)(hb:PW X (.BoolOp .And (b::rest) pos) tB'):PW X (.BoolOp .And (a::b::rest) pos) (aNW tA tB'):=by
 intro wh pins s σ H Q I h
 refine isTrue_and (thn (ha pins s σ H _ I h) fun c s1 ⟨H1,I1,q1⟩=>?_)
 cases c with
 |true=>exact hb wh pins s1 σ H1 Q I1 q1
 |false=>exact⟨H1,I1,q1⟩
theorem aH1(ha:PT X a tA)(hb:PW X (.BoolOp .Or (b::rest) pos) tB'):PW X (.BoolOp .Or (a::b::rest) pos) (tOr tA tB'):=by
 intro wh pins s σ H Q I h
 refine isTrue_or (thn (ha pins s σ H _ I h) fun c s1 ⟨H1,I1,q1⟩=>?_)
 cases c with
 |true=>exact⟨H1,I1,q1⟩
 |false=>exact hb wh pins s1 σ H1 Q I1 q1
theorem aGA(ha:PT X a tA):PT X (.UnaryOp .Not a pos) (aKG tA):=by
 intro pins s σ H Q I h
 exact isTrue_not (ha pins s σ H (fun c H1=>Q (!c) H1) I h)
noncomputable def aDA(ta tb:TE):TE:=fun σ H Q=>ta σ H fun x H1=>∃c,x=.bl c/\if c=true then tb σ H1 Q else Q (.bl false) H1
noncomputable def aKV(ta tb:TE):TE:=fun σ H Q=>ta σ H fun x H1=>∃c,x=.bl c/\if c=true then Q (.bl true) H1 else tb σ H1 Q
noncomputable def aCJ(ta:TE):TE:=fun σ H Q=>ta σ H fun x H1=>∃c,x=.bl c/\Q (.bl (!c)) H1
theorem aEO{op}{t:TE}(h:PE X a t):PE X (.BoolOp op [a] pos) t:=fun pins s σ H Q I hw=>BoolOp_one (h pins s σ H Q I hw)
theorem aGB(ha:PE X a ta)(hb:PE X (.BoolOp .And (b::rest) pos) tb):PE X (.BoolOp .And (a::b::rest) pos) (aDA ta tb):=by
 intro pins s σ H Q I h
 refine BoolOp_and (thn (ha pins s σ H _ I h) fun v s1 ⟨x,H1,I1,r1,q1⟩=>?_)
 obtain⟨c,rfl,q1⟩:=q1
 cases r1
 refine dY ?_
 cases c with
 |true=>exact hb pins s1 σ H1 Q I1 q1
 |false=>exact⟨.bl false,H1,I1,rfl,q1⟩
theorem aNO(ha:PE X a ta)(hb:PE X (.BoolOp .Or (b::rest) pos) tb):PE X (.BoolOp .Or (a::b::rest) pos) (aKV ta tb):=by
 intro pins s σ H Q I h
 refine BoolOp_or (thn (ha pins s σ H _ I h) fun v s1 ⟨x,H1,I1,r1,q1⟩=>?_)
 obtain⟨c,rfl,q1⟩:=q1
 cases r1
 refine dY ?_
 cases c with
 |false=>exact hb pins s1 σ H1 Q I1 q1
 |true=>exact⟨.bl true,H1,I1,rfl,q1⟩
theorem aDU(ha:PE X a ta):PE X (.UnaryOp .Not a pos) (aCJ ta):=by
 intro pins s σ H Q I h
 refine UnaryOp_ (thn (ha pins s σ H _ I h) fun v s1 ⟨x,H1,I1,r1,q1⟩=>?_)
 obtain⟨c,rfl,q1⟩:=q1
 cases r1
 exact not_of (dY ⟨.bl (!c),H1,I1,rfl,q1⟩)
noncomputable def tIf(t:TT)(ta tb:TE):TE:=fun σ H Q=>t σ H fun c H1=>if c=true then ta σ H1 Q else tb σ H1 Q
theorem azC{c:Expr}(hc:PT X c tA)(ha:PE X a ta)(hb:PE X b tb):PE X (.IfExp c a b pos) (tIf tA ta tb):=by
 intro pins s σ H Q I h
 refine wpAny_IfExp (thn (hc pins s σ H _ I h) fun d s1 ⟨H1,I1,q1⟩=>?_)
 cases d with
 |true=>exact ha pins s1 σ H1 Q I1 q1
 |false=>exact hb pins s1 σ H1 Q I1 q1
end
noncomputable def SqL(K:FG)(H:Hp)(a:Addr)(xs:List V):Prop:=
 Rd H a (.lst xs)∨
  ∃(o:Obj) (its:Array Value) (n:Nat),K.lookup a=some o/\o.cls=.type "list"/\o.dict=none/\o.data=.seq its n/\its.size<=sizeLine/\Vals xs its.toList
noncomputable def SqT(K:FG)(H:Hp)(a:Addr)(xs:List V):Prop:=
 Rd H a (.tup xs)∨
  ∃(o:Obj) (its:Array Value) (n:Nat),K.lookup a=some o/\o.cls=.type "tuple"/\o.data=.seq its n/\its.size<=sizeLine/\Vals xs its.toList
noncomputable def absV:Value->Option V
 |.none=>some .non
 |.bool b=>some (.bl b)
 |.int i _=>some (.int i)
 |.str x _=>some (.str x)
 |.bytes b _=>some (.byt b)
 |.float b _=>some (.flt b)
 |.ref a=>some (.ref a)
 |.type n=>some (.ty n)
 |_=>none
theorem RelV.abs{x:V}{u:Value}(r:RelV x u):absV u=some x:=by
 cases x with
 |non=>cases r;rfl
 |bl _=>cases r;rfl
 |int _=>obtain⟨t,rfl⟩:=r;rfl
 |str _=>obtain⟨t,rfl⟩:=r;rfl
 |byt _=>obtain⟨t,rfl⟩:=r;rfl
 |flt _=>obtain⟨t,rfl⟩:=r;rfl
 |ref _=>cases r;rfl
 |ty _=>cases r;rfl
theorem RelV.inj{x y:V}{u:Value}(r:RelV x u)(q:RelV y u):x=y:=a8 (r.abs.symm.trans q.abs)
theorem Vals.inj:∀{xs ys:List V} {us:List Value},Vals xs us->Vals ys us->xs=ys
 |_,_,_,.nil,.nil=>rfl
 |_,_,_,.cons r t,.cons r' t'=>by rw[r.inj r',Vals.inj t t']
section
variable{X:Cx}{pins:List (Addr×Obj)}{σ:St}{H:Hp}{s:Shared}{a:Addr}{xs ys:List V}
theorem SqL.of{K:FG}(h:H a=some (.lst xs)):SqL K H a xs:=.inl (.inl h)
theorem SqT.of{K:FG}(h:H a=some (.tup xs)):SqT K H a xs:=.inl (.inl h)
theorem Inv.list(I:Inv X pins σ H s)(h:SqL X.K H a xs):∃its:List Value,Vals xs its/\PlainL s.heap a its.toArray/\xs.length<=sizeLine:=by
 rcases h with h | ⟨o,its,n,hk,hc,hd,hs,hz,r⟩
 ·obtain⟨z,its,n,r,e⟩:=h.ok I.hok
  exact⟨its,r,⟨_,n,e,rfl,rfl,rfl⟩,z⟩
 ·refine⟨its.toList,r,⟨o,n,I.kIn a o hk,hc,hd,by simpa using hs⟩,?_⟩
  have e:=r.length
  simp only[Array.length_toList] at e
  omega
theorem Inv.tuple(I:Inv X pins σ H s)(h:SqT X.K H a xs):∃its:List Value,Vals xs its/\IsTup s.heap a its.toArray/\xs.length<=sizeLine:=by
 rcases h with h | ⟨o,its,n,hk,hc,hs,hz,r⟩
 ·obtain⟨z,its,r,p⟩:=h.ok I.hok
  exact⟨its,r,p,z⟩
 ·refine⟨its.toList,r,⟨o,I.kIn a o hk,hc,n,by simpa using hs⟩,?_⟩
  have e:=r.length
  simp only[Array.length_toList] at e
  omega
theorem Inv.list_inj(I:Inv X pins σ H s)(h:SqL X.K H a xs)(h':SqL X.K H a ys):xs=ys:=by
 obtain⟨its,r,⟨o,n,e,_,_,d⟩,_⟩:=I.list h
 obtain⟨its',r',⟨o',n',e',_,_,d'⟩,_⟩:=I.list h'
 rw[e] at e';cases e'
 rw[d] at d'
 injection d' with d1 _
 have:its=its':=by simpa using congrArg Array.toList d1
 subst this
 exact r.inj r'
theorem Inv.tuple_inj(I:Inv X pins σ H s)(h:SqT X.K H a xs)(h':SqT X.K H a ys):xs=ys:=by
 obtain⟨its,r,⟨o,e,_,n,d⟩,_⟩:=I.tuple h
 obtain⟨its',r',⟨o',e',_,n',d'⟩,_⟩:=I.tuple h'
 rw[e] at e';cases e'
 rw[d] at d'
 injection d' with d1 _
 have:its=its':=by simpa using congrArg Array.toList d1
 subst this
 exact r.inj r'
end
noncomputable abbrev Cx.wish(X:Cx)(E:Value->Shared->Prop):Cx:={X with xe:=E}
noncomputable abbrev Cx.nox(X:Cx):Cx:=X.wish fun _ _=>False
theorem Cx.Ok.wish{X:Cx}(ok:X.Ok)(E:Value->Shared->Prop):(X.wish E).Ok:=
 ⟨ok.mod,ok.kind,ok.glob,ok.blt,ok.above,ok.inj,ok.has,ok.cab,ok.hd,ok.frames,ok.stk,ok.exf,ok.bs,ok.bsz,ok.noex,ok.exfs,ok.funs,ok.frf⟩
theorem Cx.Ok.unwish{X:Cx}{E:Value->Shared->Prop}(ok:(X.wish E).Ok):X.Ok:=
 ⟨ok.mod,ok.kind,ok.glob,ok.blt,ok.above,ok.inj,ok.has,ok.cab,ok.hd,ok.frames,ok.stk,ok.exf,ok.bs,ok.bsz,ok.noex,ok.exfs,ok.funs,ok.frf⟩
section
variable{X:Cx}{pins:List (Addr×Obj)}{σ:St}{H:Hp}{s:Shared}{E:Value->Shared->Prop}
theorem Inv.wish(I:Inv X pins σ H s)(E:Value->Shared->Prop):Inv (X.wish E) pins σ H s:=⟨I.ok.wish E,I.os,I.bare,I.base,I.loc,I.cell,I.free,I.freeC,I.pin,I.hok,I.len⟩
theorem Inv.unwish(I:Inv (X.wish E) pins σ H s):Inv X pins σ H s:=⟨I.ok.unwish,I.os,I.bare,I.base,I.loc,I.cell,I.free,I.freeC,I.pin,I.hok,I.len⟩
theorem SP.unwish{D:Ends}{f:Flow}{s':Shared}(h:SP (X.wish E) pins D f s'):SP X pins D f s':=by
 cases f with
 |next=>obtain⟨σ',H',I,q⟩:=h;exact⟨σ',H',I.unwish,q⟩
 |brk=>obtain⟨σ',H',I,q⟩:=h;exact⟨σ',H',I.unwish,q⟩
 |cont=>obtain⟨σ',H',I,q⟩:=h;exact⟨σ',H',I.unwish,q⟩
 |ret u=>obtain⟨v,σ',H',I,r,q⟩:=h;exact⟨v,σ',H',I.unwish,r,q⟩
theorem PSs.nox{st:List Stmt}{t:TS}(h:PSs X.nox st t):PSs X st t:=fun pins s σ H D I hw=>
 dM (h pins s σ H D (I.wish _) hw) (fun _ _ q=>q.unwish) fun _ _ z=>False.elim z
end
section
variable{X:Cx}{st:Stmt}{rest:List Stmt}{t u:TS}{e:Expr}{te:TE}{pos:Pos}
noncomputable def aCN:TS:=fun D σ H=>D.nx σ H
noncomputable def aFR(t u:TS):TS:=fun D σ H=>t {D with nx:=u D} σ H
theorem aBY:PSs X [] aCN:=fun _ _ σ H _ I h=>wpAny_execs_nil ⟨σ,H,I,h⟩
theorem az2(h1:PS X st t)(h2:PSs X rest u):PSs X (st::rest) (aFR t u):=by
 intro pins s σ H D I h
 refine wpAny_execs_cons (thn (h1 pins s σ H {D with nx:=u D} I h) fun f s1 q=>?_)
 cases f with
 |next=>
  obtain⟨σ',H',I',q⟩:=q
  exact h2 pins s1 σ' H' D I' q
 |ret v=>exact q
 |brk=>exact q
 |cont=>exact q
theorem az9(h1:PS X st t):PSs X [st] t:=by
 intro pins s σ H D I h
 refine wpAny_execs_cons (thn (h1 pins s σ H D I h) fun f s1 q=>?_)
 cases f with
 |next=>exact wpAny_execs_nil q
 |ret v=>exact q
 |brk=>exact q
 |cont=>exact q
theorem Inv.quiet{pins:List (Addr×Obj)}{σ:St}{H:Hp}{s:Shared}(I:Inv X pins σ H s):interactive X.env=false:=by simp[interactive,I.ok.kind]
noncomputable def aCV(te:TE):TS:=fun D σ H=>te σ H fun _ H1=>D.nx σ H1
theorem az6(he:PE X e te)(hs:swapsWith e none pos.line X.env=pure false:=by rfl):PS X (.Expr e pos) (aCV te):=by
 intro pins s σ H D I h
 exact wpAny_Expr_any (thn (he pins s σ H _ I h) fun v s1 ⟨x,H1,I1,r1,q1⟩=>⟨σ,H1,I1,q1⟩) I.quiet hs
noncomputable def aJA(te:TE):TS:=fun D σ H=>te σ H D.rt
theorem aDI(he:PE X e te):PS X (.Return (some e) pos) (aJA te):=by
 intro pins s σ H D I h
 exact wpAny_Return_some (thn (he pins s σ H _ I h) fun v s1 ⟨x,H1,I1,r1,q1⟩=>⟨x,σ,H1,I1,r1,q1⟩)
noncomputable def aJ7(c:TT)(t u:TS):TS:=fun D σ H=>c σ H fun b H1=>if b=true then t D σ H1 else u D σ H1
theorem aOD{c:Expr}{a b:List Stmt}{tc:TT}(hc:PT X c tc)(ha:PSs X a t)(hb:PSs X b u):PS X (.If c a b pos) (aJ7 tc t u):=by
 intro pins s σ H D I h
 refine wpAny_If (thn (hc pins s σ H _ I h) fun d s1 ⟨H1,I1,q1⟩=>?_)
 cases d with
 |true=>exact ha pins s1 σ H1 D I1 q1
 |false=>exact hb pins s1 σ H1 D I1 q1
noncomputable def axA:TS:=fun _ _ _=>False
theorem azY:PS X st axA:=fun _ _ _ _ _ _ h=>h.elim
end
noncomputable abbrev TG:=V->St->Hp->(St->Hp->Prop)->Prop
noncomputable abbrev TGs:=List V->St->Hp->(St->Hp->Prop)->Prop
noncomputable def PG(X:Cx)(target:Expr)(t:TG):Prop:=
 ∀(pins:List (Addr×Obj)) (s:Shared) (σ:St) (H:Hp) (v:V) (u:Value) (Q:St->Hp->Prop),Inv X pins σ H s->RelV v u->t v σ H Q->
  wpAny (model X.prog X.w) X.A (assign target X.env u) (fun _ s'=>∃σ' H',Inv X pins σ' H' s'/\Q σ' H') X.xe s
noncomputable def PGs(X:Cx)(ts:List Expr)(t:TGs):Prop:=
 ∀(pins:List (Addr×Obj)) (s:Shared) (σ:St) (H:Hp) (vs:List V) (us:List Value) (Q:St->Hp->Prop),Inv X pins σ H s->Vals vs us->t vs σ H Q->
  wpAny (model X.prog X.w) X.A (assignInOrder ((assignEach ts X.env).map (·.2)) us) (fun _ s'=>∃σ' H',Inv X pins σ' H' s'/\Q σ' H') X.xe s
noncomputable abbrev aF0:=V->V->V->Hp->(Hp->Prop)->Prop
noncomputable def aJI(X:Cx)(t:aF0):Prop:=
 ∀(pins:List (Addr×Obj)) (s:Shared) (σ:St) (H:Hp) (o i v:V) (ov iv u:Value) (Q:Hp->Prop),Inv X pins σ H s->RelV o ov->RelV i iv->RelV v u->t o i v H Q->
  wpAny (model X.prog X.w) X.A (setItem ov iv u) (fun _ s'=>∃H',Inv X pins σ H' s'/\Q H') X.xe s
section
variable{X:Cx}{pos:Pos}
noncomputable def abX(i:Nat):TG:=fun v σ H Q=>Q (σ.set i (some v)) H
theorem aB5{i:Nat}{x:Str}(hN:X.N.Nodup)(hi:X.N[i]? =some x)(hx:Loc X.env.scope x)(hf:X.fn x=true∨X.env.scope.names.lookup x=some .local:=by first | exact .inl rfl | exact .inr rfl | assumption):PG X (.Name x pos) (abX i):=by
 intro pins s σ H v u Q I r h
 exact wpAny_assign_Name (aeH I hN hi hx r (fun s' I'=>⟨_,H,I',h⟩) hf)
noncomputable def aCF:TGs:=fun vs σ H Q=>vs=[]/\Q σ H
noncomputable def alN(t:TG)(u:TGs):TGs:=fun vs σ H Q=>∃v r,vs=v::r/\t v σ H fun σ' H'=>u r σ' H' Q
theorem aBE:PGs X [] aCF:=by
 intro pins s σ H vs us Q I r h
 obtain⟨e,h⟩:=h
 subst e
 cases r
 exact assignInOrder_nil ⟨σ,H,I,h⟩
theorem azB{e:Expr}{es:List Expr}{t:TG}{u:TGs}(h1:PG X e t)(h2:PGs X es u)
  (hs:(assignEach (e::es) X.env).map (·.2)=assign e X.env::(assignEach es X.env).map (·.2):=by rfl):PGs X (e::es) (alN t u):=by
 intro pins s σ H vs us Q I r h
 obtain⟨v,vr,e1,h⟩:=h
 subst e1
 cases r with
 |cons r rr=>
  rw[hs]
  refine assignInOrder_cons (thn (h1 pins s σ H _ _ _ I r h) fun _ s1 ⟨σ1,H1,I1,q1⟩=>?_)
  exact h2 pins s1 σ1 H1 _ _ Q I1 rr q1
noncomputable def aw5(K:FG)(n:Nat)(t:TGs):TG:=fun v σ H Q=>∃a xs,v=.ref a/\SqT K H a xs/\xs.length=n/\t xs σ H Q
theorem aD8{es:List Expr}{k:Nat}{t:TGs}{n:Nat}(hc:X.calm=true)(h:PGs X es t)
  (hn:(assignEach es X.env).length=n:=by rfl) (hst:(assignEach es X.env).findIdx? (·.1)=none:=by rfl):PG X (.Tuple es k pos) (aw5 X.K n t):=by
 intro pins s σ H v u Q I r hw
 obtain⟨a,xs,e1,hq,hl,hw⟩:=hw
 subst e1
 cases r
 obtain⟨its,rv,ht,hz⟩:=I.tuple hq
 refine assign_Tuple_tuple (I.ok.hd hc) ht (by simp[hn,←hl,rv.length]) hst fun h' hx=>?_
 have I1:Inv X pins σ H {s with heap:=h'}:=I.kept (t':=s.toks) fun b o e=>hx b o (aX (aS e)) e
 exact h pins _ σ H xs _ Q I1 (by simpa using rv) hw
noncomputable def aHL(to ti:TE)(t:aF0):TG:=fun v σ H Q=>to σ H fun o H1=>ti σ H1 fun i H2=>t o i v H2 fun H3=>Q σ H3
theorem aFO{o i:Expr}{to ti:TE}{t:aF0}(ho:PE X o to)(hi:PE X i ti)(hs:aJI X t)
  (ha:∀v,assign (.Subscript o i pos) X.env v=(do
   let ov ←holding [v] (eval o X.env)
   let iv ←holding [v,ov] (eval i X.env)
   standAt pos
   holding [v,ov,iv] (setItem ov iv v)
   release [v,ov,iv] []):=by intro _;rfl):PG X (.Subscript o i pos) (aHL to ti t):=by
 intro pins s σ H v u Q I r h
 rw[ha]
 refine dJ (dO (thn (ho pins s σ H _ I h) fun ov s1 ⟨x,H1,I1,r1,q1⟩=>?_))
 refine dJ (dO (thn (hi pins s1 σ H1 _ I1 q1) fun iv s2 ⟨y,H2,I2,r2,q2⟩=>?_))
 refine dJ (wpAny_standAt (dJ (dO (thn (hs pins s2 σ H2 x y v ov iv u _ I2 r1 r2 r q2) fun _ s3 ⟨H3,I3,q3⟩=>?_))))
 exact wpAny_release ⟨σ,H3,I3,q3⟩
noncomputable def av1(te:TE)(g:TG):TS:=fun D σ H=>te σ H fun x H1=>g x σ H1 D.nx
theorem aD4{tg e:Expr}{te:TE}{g:TG}(he:PE X e te)(hg:PG X tg g)(hs:swapsWithSole [tg] e pos.line X.env=pure false:=by rfl)(hw:swappedStores [tg] e X.env=pure none:=by rfl)
  (h1:(assignEach [tg] X.env).map (·.2)=[assign tg X.env]:=by rfl):PS X (.Assign [tg] e pos) (av1 te g):=by
 intro pins s σ H D I h
 refine wpAny_Assign_stores (thn (he pins s σ H _ I h) fun v s1 ⟨x,H1,I1,r1,q1⟩=>?_) hs hw
 rw[h1]
 exact thn (hg pins s1 σ H1 x v _ I1 r1 q1) fun _ s2 q=>q
theorem aF2{i:Nat}{x:Str}{e:Expr}{te:TE}{pos':Pos}(hN:X.N.Nodup)(hi:X.N[i]? =some x)(hx:Loc X.env.scope x)(he:PE X e te)(hs:swapsWith e (some (.Name x pos')) pos.line X.env=pure false:=by rfl)(hf:X.fn x=true∨X.env.scope.names.lookup x=some .local:=by first | exact .inl rfl | exact .inr rfl | assumption):
  PS X (.Assign [.Name x pos'] e pos) (av1 te (abX i)):=by
 intro pins s σ H D I h
 refine wpAny_Assign_Name (thn (he pins s σ H _ I h) fun v s1 ⟨y,H1,I1,r1,q1⟩=>?_) hs
 exact aeH I1 hN hi hx r1 (fun s2 I2=>⟨_,H1,I2,q1⟩) hf
noncomputable def aLN(i j:Nat)(ta:TA):TS:=fun D σ H=>ta σ H fun vs H1=>∃v w,vs=[v,w]/\D.nx ((σ.set i (some v)).set j (some w)) H1
theorem aE9{i j:Nat}{x y:Str}{a b:Expr}{ta:TA}{px py pt:Pos}{kt k2 pt2}(hc:X.calm=true)(hN:X.N.Nodup)(hi:X.N[i]? =some x)(hj:X.N[j]? =some y)(hij:i≠j)
  (hx:X.env.scope.names.lookup x=some .local) (hy:X.env.scope.names.lookup y=some .local) (ha:PA X [a,b] ta)
  (hw:swappedStores [.Tuple [.Name x px,.Name y py] kt pt] (.Tuple [a,b] k2 pt2) X.env=pure (some [x,y]))
  (hs:swapsWithSole [.Tuple [.Name x px,.Name y py] kt pt] (.Tuple [a,b] k2 pt2) pos.line X.env=pure false:=by rfl):
  PS X (.Assign [.Tuple [.Name x px,.Name y py] kt pt] (.Tuple [a,b] k2 pt2) pos) (aLN i j ta):=by
 intro pins s σ H D I h
 rw[exec_Assign_arm]
 refine dJ (wpAny_standAt ?_)
 rw[hs]
 refine dJ (dX ?_)
 rw[if_neg (by decide)]
 refine dJ (Tuple_ (thn (ha _ pins s σ H _ I h) fun us s1 ⟨vs,H1,I1,r1,q1⟩=>?_))
 obtain⟨v,w,e1,q1⟩:=q1
 subst e1
 obtain⟨u1,u2,rfl,rv,rw'⟩:∃u1 u2,us=[u1,u2]/\RelV v u1/\RelV w u2:=by
  cases r1 with
  |cons p q=>
   cases q with
   |cons p' q'=>
    cases q'
    exact⟨_,_,rfl,p,p'⟩
 refine wpAny_newObj_type ?_ (by show 2<=sizeLine;decide)
 have I2:Inv X pins σ H1 {s1 with heap:=s1.heap.push {cls:=.type "tuple",data:=.seq [u1,u2].toArray} }:=I1.kept (t':=s1.toks) fun b o e=>aZ _ e
 rw[hw]
 refine dJ (dX ?_)
 show wpAny (model X.prog X.w) X.A (do rule "assign.swapped-stores";let items ←unpackItems (.ref s1.heap.objs.size) 2 none;assignInOrder [fun v=>bindName X.env y v,fun v=>bindName X.env x v] items.reverse;pure Flow.next) _ _ _
 refine dJ (wpAny_rule (dJ (unpackItems_tuple (items:= #[u1,u2]) (I.ok.hd hc) (IsTup.new s1.heap _) fun h' hx'=>?_)))
 have I3:=I2.kept (h':=h') (t':=s1.toks) fun b o e=>hx' b o (aX (aS e)) e
 show wpAny _ _ (assignInOrder [fun v=>bindName X.env y v,fun v=>bindName X.env x v] [u2,u1] >>=fun _=>pure Flow.next) _ _ _
 refine dJ (assignInOrder_cons (wpAny_bindName (aeH I3 hN hj (.inl hy) rw' (fun s2 I4=>?_) (.inr hy))))
 refine assignInOrder_cons (wpAny_bindName (aeH I4 hN hi (.inl hx) rv (fun s3 I5=>assignInOrder_nil (dX ?_)) (.inr hx)))
 rw[List.set_comm _ _ (Ne.symm hij)] at I5
 exact⟨_,H1,I5,q1⟩
end
section
variable{X:Cx}{pos:Pos}
noncomputable def at5(c:TT)(tb:TS):TS:=fun D σ H=>∃W:Nat->St->Hp->Prop,(∃m,W m σ H)/\∀m σ H,W m σ H->
 c σ H fun b H1=>if b=true then ∃N:St->Hp->Prop,(∀σ' H',N σ' H'->∃m',m'<m/\W m' σ' H')/\tb {D with nx:=N,ct:=N,bk:=D.nx} σ H1 else D.nx σ H1
theorem axZ{c:Expr}{body:List Stmt}{tc:TT}{tb:TS}(hp:PassesOwn (model X.prog X.w) X.A X.env X.xe)(hc:PT X c tc)(hb:PSs X body tb):PS X (.While c body [] pos) (at5 tc tb):=by
 intro pins s σ H D I h
 obtain⟨W,⟨m0,w0⟩,turn⟩:=h
 refine wpAny_While (codeAny_whileLoop (fun n s'=>∃σ' H',Inv X pins σ' H' s'/\W n σ' H') ?_ m0 ⟨σ,H,I,w0⟩)
 rintro n s1 ⟨σ1,H1,I1,w1⟩
 refine dI hp (thn (hc pins s1 σ1 H1 _ I1 (turn n σ1 H1 w1)) fun b s2 ⟨H2,I2,q2⟩=>?_)
 cases b with
 |true=>
  obtain⟨N,hN,q2⟩:=q2
  rw[if_pos rfl]
  refine dI hp (thn (hb pins s2 σ1 H2 _ I2 q2) fun f s3 q3=>?_)
  cases f with
  |next=>
   obtain⟨σ3,H3,I3,n3⟩:=q3
   obtain⟨m',hm,w3⟩:=hN σ3 H3 n3
   exact⟨m',hm,σ3,H3,I3,w3⟩
  |cont=>
   obtain⟨σ3,H3,I3,n3⟩:=q3
   obtain⟨m',hm,w3⟩:=hN σ3 H3 n3
   exact⟨m',hm,σ3,H3,I3,w3⟩
  |brk=>exact q3
  |ret v=>exact q3
 |false=>
  rw[if_neg a9]
  exact wpAny_execs_nil ⟨σ1,H2,I2,q2⟩
end
structure It where
 go:Nat->Hp->Prop
 yld:Nat->Hp->V->Hp->Prop
 stop:Nat->Hp->Prop
noncomputable def adN(X:Cx)(pins:List (Addr×Obj))(H:Hp)(b:Addr):Prop:=
 H b=none/\b≠X.env.locals/\b∉X.fs/\(b∈X.ex∨X.s₀.heap.objs.size<=b)/\(∀x c,X.env.cells.lookup x=some c->c≠b)/\∀p∈X.pn++pins,p.1≠b
theorem Inv.fpOk{X:Cx}{pins:List (Addr×Obj)}{σ:St}{H H':Hp}{s:Shared}{b:Addr}(I:Inv X pins σ H s)(hb:s.heap.objs.size<=b)(hn:H' b=none):adN X pins H' b:=by
 refine⟨hn,Nat.ne_of_gt (aY I.lt hb),I.nofs hb,.inr (bE I.sz hb),fun x c e z=>?_,fun p hp z=>?_⟩
 ·obtain⟨v,q⟩:=I.cell x c e
  exact absurd (aY q.lt (by rw[z];exact hb)) (cD _)
 ·exact absurd (aY (aS (I.pin p hp).1) (by rw[z];exact hb)) (cD _)
structure Turn(P:Program)(w:World)(K:FG)(tg:Expr)(J:It)(fp:List Addr)(it:Addr)(tn:Nat->Heap->Prop):Prop where
 mem:it∈fp
 obj:∀i h,tn i h->∀b∈fp,∃o,h.get? b=some o/\∀v,o.data≠ .cell v
 keep:∀i h h',tn i h->(∀b∈fp,∀o,h.get? b=some o->h'.get? b=some o)->tn i h'
 item:∀(X:Cx),X.prog=P->X.w=w->X.K=K->X.calm=true->∀(i:Nat) (pins:List (Addr×Obj)) (s:Shared) (σ:St) (H:Hp) (E:Value->Shared->Prop),Inv X pins σ H s->(∀b∈fp,adN X pins H b)->tn i s.heap->J.go i H->
  wpAny (model P w) X.A (pyNext (.ref it)) (fun r s1=>∃u,r=some u/\
   wpAny (model P w) X.A (letOwnedTupleGo tg (.ref it) u) (fun _ s2=>∃x H',Inv X pins σ H' s2/\RelV x u/\J.yld i H x H'/\tn (i+1) s2.heap/\∀b∈fp,H' b=none) E s1) E s
 done:∀(X:Cx),X.prog=P->X.w=w->X.K=K->X.calm=true->∀(i:Nat) (pins:List (Addr×Obj)) (s:Shared) (σ:St) (H:Hp) (E:Value->Shared->Prop),Inv X pins σ H s->(∀b∈fp,adN X pins H b)->tn i s.heap->J.stop i H->
  wpAny (model P w) X.A (pyNext (.ref it)) (fun r s1=>r=none/\Inv X pins σ H s1) E s
 self:∀(A:Around) (i:Nat) (s:Shared) (Q:Value->Shared->Prop) (E:Value->Shared->Prop),tn i s.heap->Q (.ref it) s->wpAny (model P w) A (pyIter (.ref it)) Q E s
noncomputable abbrev TI:=St->Hp->(It->Hp->Prop)->Prop
noncomputable def PIE(X:Cx)(pins:List (Addr×Obj))(σ:St)(tg:Expr)(R:It->Hp->Prop)(itv:Value)(s2:Shared):Prop:=
 ∃(it:Addr) (fp:List Addr) (tn:Nat->Heap->Prop) (J:It) (H':Hp),itv=.ref it/\Inv X pins σ H' s2/\Turn X.prog X.w X.K tg J fp it tn/\tn 0 s2.heap/\(∀b∈fp,adN X pins H' b)/\R J H'
noncomputable def PI(X:Cx)(tg iter:Expr)(wi:TI):Prop:=
 ∀(pins:List (Addr×Obj)) (s:Shared) (σ:St) (H:Hp) (R:It->Hp->Prop),Inv X pins σ H s->wi σ H R->
  wpAny (model X.prog X.w) X.A (eval iter X.env) (fun v s1=>wpAny (model X.prog X.w) X.A (pyIter v) (PIE X pins σ tg R) X.xe s1) X.xe s
theorem aqN{M:Model}{A:Around}{E:Value->Shared->Prop}{s:Shared}{tg:Expr}{it:Addr}{u:Value}{o:Obj}{n:String}{vs:Array Value}{Q:Unit->Shared->Prop}(ho:s.heap.get? it=some o)(hc:o.cls=.type n)(hd:o.data=.fields vs)
  (hn:["enumerate","zip","dict_itemiterator","dict_reverseitemiterator","odict_iterator","itertools.zip_longest","itertools.pairwise"].contains n=false) (hQ:Q () s):wpAny M A (letOwnedTupleGo tg (.ref it) u) Q E s:=by
 unfold letOwnedTupleGo
 cases tg<;>first
  |exact dX hQ
  |(cases u<;>first
    |exact dX hQ
    |(refine dJ (wpAny_load ho ?_)
      rw[hc,hd]
      show wpAny M A (if (["enumerate","zip","dict_itemiterator","dict_reverseitemiterator","odict_iterator","itertools.zip_longest","itertools.pairwise"].contains n&&vs[0]? ==some (rawInt _))=true then _ else _) Q E s
      rw[if_neg (by intro h;rw[hn,Bool.false_and] at h;cases h)]
      exact dX hQ))
noncomputable def Itl(K:FG)(a:Addr):It:=
 ⟨fun i H=>∃xs x,SqL K H a xs/\xs[i]? =some x,fun i H x H'=>H'=H/\∀xs,SqL K H a xs->xs[i]? =some x,fun i H=>∃xs,SqL K H a xs/\xs.length<=i⟩
noncomputable def Itt(K:FG)(a:Addr):It:=
 ⟨fun i H=>∃xs x,SqT K H a xs/\xs[i]? =some x,fun i H x H'=>H'=H/\∀xs,SqT K H a xs->xs[i]? =some x,fun i H=>∃xs,SqT K H a xs/\xs.length<=i⟩
noncomputable def Itr(lo:Int)(n:Nat):It:=⟨fun i _=>i<n,fun i H x H'=>H'=H/\x=.int (lo+i),fun i _=>n<=i⟩
theorem awC{P:Program}{w:World}{K:FG}{tg:Expr}(a it:Addr):Turn P w K tg (Itl K a) [it] it (fun i h=>h.IsListIter it a i) where
 mem:=by simp
 obj:=fun i h st b hb=>by
  have e:b=it:=by simpa using hb
  subst e
  obtain⟨o,e,c,d⟩:=st
  exact⟨o,e,fun v z=>by rw[d] at z;cases z⟩
 keep:=fun i h h' st k=>st.at fun o e=>k it (by simp) o e
 item:=by
  intro X hP hw hK hc i pins s σ H E I hf st hg
  subst hP hw hK
  obtain⟨xs,x,hq,hx⟩:=hg
  obtain⟨its,rv,p,hz⟩:=I.list hq
  obtain⟨u,hu,ru⟩:=rv.get hx
  obtain⟨f0,f1,f2,f3,f4,f5⟩:=hf it (by simp)
  refine wpAny_pyNext_list_item st p.isList (x:=u) (by simpa using hu) fun h' st' sb=>?_
  have I1:Inv X pins σ H {s with heap:=h'}:=I.turned (t':=s.toks) (fun b o hb e=>(sb.2 b hb).trans e) f0 f1 f3 f4 f5
  obtain⟨o,e,c,d⟩:=id st'
  exact⟨u,rfl,aqN (s:={s with heap:=h'}) e c d (by decide) ⟨x,H,I1,ru,⟨rfl,fun ys hy=>by rw[I.list_inj hy hq];exact hx⟩,st',fun b hb=>(hf b hb).1⟩⟩
 done:=by
  intro X hP hw hK hc i pins s σ H E I hf st hg
  subst hP hw hK
  obtain⟨xs,hq,hx⟩:=hg
  obtain⟨its,rv,p,hz⟩:=I.list hq
  obtain⟨f0,f1,f2,f3,f4,f5⟩:=hf it (by simp)
  have hl:=rv.length
  exact wpAny_pyNext_list_end (I.ok.hd hc) st p.isList (by simp;omega) fun h' eb=>⟨rfl,I.turned (t':=s.toks) (fun b o hb e=>eb b o hb e) f0 f1 f3 f4 f5⟩
 self:=fun _ _ _ _ _ st h=>wpAny_pyIter_listiter st h
theorem atY{P:Program}{w:World}{K:FG}{tg:Expr}(a it:Addr):Turn P w K tg (Itt K a) [it] it (fun i h=>h.IsTupleIter it a i) where
 mem:=by simp
 obj:=fun i h st b hb=>by
  have e:b=it:=by simpa using hb
  subst e
  obtain⟨o,e,c,d⟩:=st
  exact⟨o,e,fun v z=>by rw[d] at z;cases z⟩
 keep:=fun i h h' st k=>st.at fun o e=>k it (by simp) o e
 item:=by
  intro X hP hw hK hc i pins s σ H E I hf st hg
  subst hP hw hK
  obtain⟨xs,x,hq,hx⟩:=hg
  obtain⟨its,rv,p,hz⟩:=I.tuple hq
  obtain⟨u,hu,ru⟩:=rv.get hx
  obtain⟨f0,f1,f2,f3,f4,f5⟩:=hf it (by simp)
  refine wpAny_pyNext_tuple_item st (show s.heap.IsTuple a its.toArray from p) (x:=u) (by simpa using hu) fun h' st' sb=>?_
  have I1:Inv X pins σ H {s with heap:=h'}:=I.turned (t':=s.toks) (fun b o hb e=>(sb.2 b hb).trans e) f0 f1 f3 f4 f5
  obtain⟨o,e,c,d⟩:=id st'
  exact⟨u,rfl,aqN (s:={s with heap:=h'}) e c d (by decide) ⟨x,H,I1,ru,⟨rfl,fun ys hy=>by rw[I.tuple_inj hy hq];exact hx⟩,st',fun b hb=>(hf b hb).1⟩⟩
 done:=by
  intro X hP hw hK hc i pins s σ H E I hf st hg
  subst hP hw hK
  obtain⟨xs,hq,hx⟩:=hg
  obtain⟨its,rv,p,hz⟩:=I.tuple hq
  obtain⟨f0,f1,f2,f3,f4,f5⟩:=hf it (by simp)
  have hl:=rv.length
  exact wpAny_pyNext_tuple_end (I.ok.hd hc) st (show s.heap.IsTuple a its.toArray from p) (by simp;omega) fun h' eb=>⟨rfl,I.turned (t':=s.toks) (fun b o hb e=>eb b o hb e) f0 f1 f3 f4 f5⟩
 self:=fun _ _ _ _ _ st h=>wpAny_pyIter_tupleiter st h
theorem at3{P:Program}{w:World}{K:FG}{tg:Expr}(it:Addr)(lo:Int)(n:Nat):Turn P w K tg (Itr lo n) [it] it (fun i h=>IsRangeIter h it (lo+(i:Nat)*1) ((n:Int)-(i:Nat)) 1) where
 mem:=by simp
 obj:=fun i h st b hb=>by
  have e:b=it:=by simpa using hb
  subst e
  exact⟨_,st,fun v z=>by
   have z':Data.fields _=Data.cell v:=z
   cases z'⟩
 keep:=fun i h h' st k=>k it (by simp) _ st
 item:=by
  intro X hP hw hK hc i pins s σ H E I hf st hg
  subst hP hw hK
  obtain⟨f0,f1,f2,f3,f4,f5⟩:=hf it (by simp)
  have W:=Walks.range (prog:=X.prog) (w:=X.w) (I.ok.hd hc) it lo 1 n
  refine W.item i s _ _ hg st fun v h' tk hv st' kk=>?_
  obtain⟨t,rfl⟩:=hv
  have I1:Inv X pins σ H {s with heap:=h',toks:=tk}:=I.turned (fun b o hb e=>kk b o (by simpa using hb) e) f0 f1 f3 f4 f5
  refine⟨_,rfl,aqN (s:={s with heap:=h',toks:=tk}) (n:="range_iterator") st' rfl rfl (by decide) ⟨.int (lo+i),H,I1,⟨t,?_⟩,⟨rfl,rfl⟩,st',fun b hb=>(hf b hb).1⟩⟩
  rw[Int.mul_one]
 done:=by
  intro X hP hw hK hc i pins s σ H E I hf st hg
  subst hP hw hK
  obtain⟨f0,f1,f2,f3,f4,f5⟩:=hf it (by simp)
  exact wpAny_pyNext_range_end (I.ok.hd hc) st (by have:n<=i:=hg;omega) fun h' eb=>⟨rfl,I.turned (t':=s.toks) (fun b o hb e=>eb b o hb e) f0 f1 f3 f4 f5⟩
 self:=fun _ _ _ _ _ st h=>wpAny_pyIter_rangeiter st h
section
variable{X:Cx}{tg:Expr}
noncomputable def aC2(K:FG)(tl:TE):TI:=fun σ H R=>tl σ H fun x H1=>∃a,x=.ref a/\(∃xs,SqL K H1 a xs)/\R (Itl K a) H1
noncomputable def aLL(K:FG)(tl:TE):TI:=fun σ H R=>tl σ H fun x H1=>∃a,x=.ref a/\(∃xs,SqT K H1 a xs)/\R (Itt K a) H1
theorem aAW{l:Expr}{tl:TE}(hl:PE X l tl):PI X tg l (aC2 X.K tl):=by
 intro pins s σ H R I h
 refine thn (hl pins s σ H _ I h) fun v s1 ⟨x,H1,I1,r1,q1⟩=>?_
 obtain⟨a,e,⟨xs,hq⟩,q⟩:=q1
 subst e
 cases r1
 obtain⟨its,rv,p,hz⟩:=I1.list hq
 refine wpAny_pyIter_list p.isList ?_
 refine⟨s1.heap.objs.size,[s1.heap.objs.size],_,_,H1,rfl,I1.kept (t':=s1.toks) fun b o e=>aZ _ e,awC a _,⟨_,bK _ rfl,rfl,rfl⟩,fun b hb=>?_,q⟩
 have e:b=s1.heap.objs.size:=by simpa using hb
 subst e
 exact I1.fpOk (aQ _) (I1.hok.fresh (aQ _))
theorem aE6{l:Expr}{tl:TE}(hl:PE X l tl):PI X tg l (aLL X.K tl):=by
 intro pins s σ H R I h
 refine thn (hl pins s σ H _ I h) fun v s1 ⟨x,H1,I1,r1,q1⟩=>?_
 obtain⟨a,e,⟨xs,hq⟩,q⟩:=q1
 subst e
 cases r1
 obtain⟨its,rv,p,hz⟩:=I1.tuple hq
 refine wpAny_pyIter_tuple (show s1.heap.IsTuple a its.toArray from p) ?_
 refine⟨s1.heap.objs.size,[s1.heap.objs.size],_,_,H1,rfl,I1.kept (t':=s1.toks) fun b o e=>aZ _ e,atY a _,⟨_,bK _ rfl,rfl,rfl⟩,fun b hb=>?_,q⟩
 have e:b=s1.heap.objs.size:=by simpa using hb
 subst e
 exact I1.fpOk (aQ _) (I1.hok.fresh (aQ _))
theorem arX{pins:List (Addr×Obj)}{σ:St}{H:Hp}{s:Shared}{R:It->Hp->Prop}{E:Value->Shared->Prop}{lo hi:Int}{t u v:Tok}{tk:Nat}(I:Inv X pins σ H s)(h1: -(2^62)<=lo)(h2:lo<2^62)(h3: -(2^62)<=hi)(h4:hi<2^62)
  (q:R (Itr lo (hi-lo).toNat) H):wpAny (model X.prog X.w) X.A (pyIter (.ref s.heap.objs.size)) (PIE X pins σ tg R) E {s with heap:=s.heap.push {cls:=.type "range",data:=.fields #[.int lo t,.int hi u,.int 1 v]},toks:=tk}:=by
 refine wpAny_pyIter_range (IsRange.new ..) (small_one h1 h2 h3 h4) ?_
 have I1:Inv X pins σ H {s with heap:=s.heap.push {cls:=.type "range",data:=.fields #[.int lo t,.int hi u,.int 1 v]},toks:=tk}:=I.kept fun b o e=>aZ _ e
 refine⟨(s.heap.push {cls:=.type "range",data:=.fields #[.int lo t,.int hi u,.int 1 v]}).objs.size,[(s.heap.push {cls:=.type "range",data:=.fields #[.int lo t,.int hi u,.int 1 v]}).objs.size],_,_,H,rfl,
  I1.kept (t':=tk) fun b o e=>aZ _ e,at3 _ lo (hi-lo).toNat,?_,fun b hb=>?_,q⟩
 ·have e1:lo+((0:Nat):Int)*1=lo:=by simp
  have e2:(((hi-lo).toNat:Nat):Int)-((0:Nat):Int)=Builtin.Range.rangeSize lo hi 1:=by rw[rangeSize_one];split<;>omega
  show IsRangeIter _ _ (lo+((0:Nat):Int)*1) ((((hi-lo).toNat:Nat):Int)-((0:Nat):Int)) 1
  rw[e1,e2]
  exact bK _ rfl
 ·have e:b=(s.heap.push {cls:=.type "range",data:=.fields #[.int lo t,.int hi u,.int 1 v]}).objs.size:=by simpa using hb
  subst e
  exact I1.fpOk (aQ _) (I1.hok.fresh (aQ _))
noncomputable def aCK(ta:TA):TI:=fun σ H R=>ta σ H fun vs H1=>∃j:Int,vs=[.int j]/\ -(2^62)<=j/\j<2^62/\R (Itr 0 j.toNat) H1
noncomputable def aCI(ta:TA):TI:=fun σ H R=>ta σ H fun vs H1=>∃i j:Int,vs=[.int i,.int j]/\(-(2^62)<=i/\i<2^62/\ -(2^62)<=j/\j<2^62)/\R (Itr i (j-i).toNat) H1
theorem awS{a:Expr}{ta:TA}{p pos:Pos}(hg:Gl X "range")(hm:X.mg "range"=none)(ha:PA X [a] ta)(hs:starEach [a] X.env=[(false,eval a X.env)]:=by rfl):PI X tg (.Call (.Name "range" p) [a] [] pos) (aCK ta):=by
 intro pins s σ H R I h
 refine Call_ (ahS I hg hm boot_range (PyProof.Rows.callWith_type1 (thn (ha pos pins s σ H _ I h) fun us s1 ⟨vs,H1,I1,r1,q1⟩=>?_) hs rfl))
 obtain⟨j,e,q1,q2,q⟩:=q1
 subst e
 cases r1 with
 |cons r rr=>
  cases rr
  obtain⟨t,rfl⟩:=r
  exact call_range_1 (arX I1 (by omega) (by omega) q1 q2 (by simpa using q))
theorem awA{a b:Expr}{ta:TA}{p pos:Pos}(hg:Gl X "range")(hm:X.mg "range"=none)(ha:PA X [a,b] ta)(hs:starEach [a,b] X.env=[(false,eval a X.env),(false,eval b X.env)]:=by rfl)(hs2:starEach [b] X.env=[(false,eval b X.env)]:=by rfl):
  PI X tg (.Call (.Name "range" p) [a,b] [] pos) (aCI ta):=by
 intro pins s σ H R I h
 refine Call_ (ahS I hg hm boot_range (PyProof.Rows.callWith_type1 (thn (ha pos pins s σ H _ I h) fun us s1 ⟨vs,H1,I1,r1,q1⟩=>?_) (by rw[hs,hs2]) (by rw[hs2];rfl)))
 obtain⟨i,j,e,⟨q1,q2,q3,q4⟩,q⟩:=q1
 subst e
 cases r1 with
 |cons r rr=>
  cases rr with
  |cons r' rr=>
   cases rr
   obtain⟨t,rfl⟩:=r
   obtain⟨t',rfl⟩:=r'
   exact call_range_2 (arX I1 q1 q2 q3 q4 q)
noncomputable def aJT(wi:TI)(g:TG)(tb:TS):TS:=fun D σ H=>wi σ H fun J H1=>∃W:Nat->Nat->St->Hp->Prop,(∃m,W 0 m σ H1)/\∀i m σ H,W i m σ H->
 (J.stop i H/\D.nx σ H)∨(J.go i H/\∃N:St->Hp->Prop,(∀σ' H',N σ' H'->∃m',m'<m/\W (i+1) m' σ' H')/\∀x H',J.yld i H x H'->g x σ H' fun σ2 H2=>tb {D with nx:=N,ct:=N,bk:=D.nx} σ2 H2)
noncomputable def agE(fp:List Addr)(h:Heap):List (Addr×Obj):=fp.filterMap fun b=>(h.get? b).map fun o=>(b,o)
theorem ab4{fp:List Addr}{h:Heap}{b:Addr}{o:Obj}(hb:b∈fp)(e:h.get? b=some o):(b,o)∈agE fp h:=List.mem_filterMap.mpr ⟨b,hb,by rw[e];rfl⟩
theorem awQ{fp:List Addr}{h:Heap}{p:Addr×Obj}(hp:p∈agE fp h):p.1∈fp/\h.get? p.1=some p.2:=by
 obtain⟨b,hb,e⟩:=List.mem_filterMap.mp hp
 cases q:h.get? b with
 |none=>rw[q] at e;cases e
 |some o=>
  rw[q] at e
  have e':(b,o)=p:=a8 e
  subst e'
  exact⟨hb,q⟩
theorem Inv.pinned{pins:List (Addr×Obj)}{σ:St}{H:Hp}{s:Shared}{fp:List Addr}(I:Inv X pins σ H s)(hf:∀b∈fp,adN X pins H b)(ho:∀b∈fp,∃o,s.heap.get? b=some o/\∀v,o.data≠ .cell v):Inv X (pins++agE fp s.heap) σ H s:=
 I.pins_of fun p hp=>(bH.mp hp).elim (fun z=>I.pin p (bP _ z)) fun z=>by
  obtain⟨hb,e⟩:=awQ z
  obtain⟨f0,f1,f2,_⟩:=hf p.1 hb
  obtain⟨o,e',d⟩:=ho p.1 hb
  rw[e] at e';cases e'
  exact⟨e,f0,f1,f2,d⟩
theorem Inv.unpinned{pins pl:List (Addr×Obj)}{σ:St}{H:Hp}{s:Shared}(I:Inv X (pins++pl) σ H s):Inv X pins σ H s:=I.pins_of fun p hp=>I.pin p (bP _ (List.mem_append_left _ hp))
theorem aFX{iter:Expr}{body:List Stmt}{wi:TI}{g:TG}{tb:TS}{pos:Pos}(hp:PassesOwn (model X.prog X.w) X.A X.env X.xe)(hc:X.calm=true)(hi:PI X tg iter wi)(hg:PG X tg g)(hb:PSs X body tb)
  (hs:∀x,foldedSetIterable iter X.env x=pure x:=by intro _;rfl):PS X (.For tg iter body [] pos) (aJT wi g tb):=by
 intro pins s σ H D I h
 refine wpAny_For (thn (hi pins s σ H _ I h) fun v s1 h1=>thn h1 fun itv s2 h2=>?_) hs
 obtain⟨it,fp,tn,J,H2,e,I2,T,st2,f2,W,⟨m0,w0⟩,turn⟩:=h2
 subst e
 -- what stays true of the iterator's objects through the loop
 have stat:∀{H':Hp},(∀b∈fp,H' b=none)->∀b∈fp,adN X pins H' b:=fun hn b hb=>⟨hn b hb,(f2 b hb).2⟩
 refine codeAny_forLoop_any (fun n s'=>∃i σ' H',Inv X pins σ' H' s'/\tn i s'.heap/\(∀b∈fp,H' b=none)/\W i n σ' H') ?_ m0 ⟨0,σ,H2,I2,st2,fun b hb=>(f2 b hb).1,w0⟩
 rintro n s3 ⟨i,σ3,H3,I3,st3,fr3,w3⟩
 rcases turn i n σ3 H3 w3 with ⟨stop,qn⟩ | ⟨go,N,hN,step⟩
 ·refine dI hp (thn (T.done X rfl rfl rfl hc i pins s3 σ3 H3 X.xe I3 (stat fr3) st3 stop) fun r s4 ⟨hr,I4⟩=>?_)
  subst hr
  exact wpAny_execs_nil ⟨σ3,H3,I4,qn⟩
 ·refine dI hp (thn (T.item X rfl rfl rfl hc i pins s3 σ3 H3 X.xe I3 (stat fr3) st3 go) fun r s4 ⟨u,hr,h4⟩=>?_)
  subst hr
  refine dI hp (thn h4 fun _ s5 ⟨x,H5,I5,r5,y5,st5,fr5⟩=>?_)
  have I5':=I5.pinned (stat fr5) (T.obj _ _ st5)
  refine dI hp (thn (hg _ s5 σ3 H5 x u _ I5' r5 (step x H5 y5)) fun _ s6 ⟨σ6,H6,I6,q6⟩=>?_)
  refine dI hp (thn (hb _ s6 σ6 H6 _ I6 q6) fun f s7 q7=>?_)
  have again:∀{σ7:St} {H7:Hp},Inv X (pins++agE fp s5.heap) σ7 H7 s7->N σ7 H7->∃m,m<n/\∃i σ' H',Inv X pins σ' H' s7/\tn i s7.heap/\(∀b∈fp,H' b=none)/\W i m σ' H':=fun {σ7 H7} I7 n7=>by
   obtain⟨m',hm,w7⟩:=hN σ7 H7 n7
   refine⟨m',hm,i+1,σ7,H7,I7.unpinned,T.keep _ _ _ st5 fun b hb o e=>(I7.pin (b,o) (bP _ (bP _ (ab4 hb e)))).1,fun b hb=>?_,w7⟩
   obtain⟨o,e,d⟩:=T.obj _ _ st5 b hb
   exact (I7.pin (b,o) (bP _ (bP _ (ab4 hb e)))).2.1
  cases f with
  |next=>obtain⟨σ7,H7,I7,n7⟩:=q7;exact again I7 n7
  |cont=>obtain⟨σ7,H7,I7,n7⟩:=q7;exact again I7 n7
  |brk=>obtain⟨σ7,H7,I7,q7⟩:=q7;exact⟨σ7,H7,I7.unpinned,q7⟩
  |ret v=>obtain⟨x7,σ7,H7,I7,r7,q7⟩:=q7;exact⟨x7,σ7,H7,I7.unpinned,r7,q7⟩
end
theorem acR{K:FG}{a:Addr}{xs:List V}{g:TG}{tb:TS}{D:Ends}{σ:St}{H:Hp}(Pv:Nat->St->Hp->Prop)(h0:Pv 0 σ H)(hl:∀i σ H,i<=xs.length->Pv i σ H->SqL K H a xs)
  (hs:∀i x σ H,xs[i]? =some x->Pv i σ H->g x σ H fun σ2 H2=>tb {D with nx:=Pv (i+1),ct:=Pv (i+1),bk:=D.nx} σ2 H2) (hd:∀σ H,Pv xs.length σ H->D.nx σ H):
  ∃W:Nat->Nat->St->Hp->Prop,(∃m,W 0 m σ H)/\∀i m σ H,W i m σ H->
   ((Itl K a).stop i H/\D.nx σ H)∨((Itl K a).go i H/\∃N:St->Hp->Prop,(∀σ' H',N σ' H'->∃m',m'<m/\W (i+1) m' σ' H')/\∀x H',(Itl K a).yld i H x H'->g x σ H' fun σ2 H2=>tb {D with nx:=N,ct:=N,bk:=D.nx} σ2 H2):=by
 refine⟨fun i m σ H=>m=xs.length-i/\i<=xs.length/\Pv i σ H,⟨xs.length,by simp,bO _,h0⟩,?_⟩
 rintro i m σ H ⟨rfl,hi,p⟩
 have q:=hl i σ H hi p
 by_cases hlt:i<xs.length
 ·refine .inr ⟨⟨xs,xs[i],q,by simp[hlt]⟩,Pv (i+1),fun σ' H' p'=>⟨xs.length-(i+1),by omega,rfl,hlt,p'⟩,fun x H' y=>?_⟩
  obtain⟨e,y⟩:=y
  subst e
  exact hs i x σ _ (y xs q) p
 ·have e:i=xs.length:=by omega
  subst e
  exact .inl ⟨⟨xs,q,aQ _⟩,hd σ H p⟩
theorem aoD{K:FG}{a:Addr}{xs:List V}{g:TG}{tb:TS}{D:Ends}{σ:St}{H:Hp}(Pv:Nat->St->Hp->Prop)(h0:Pv 0 σ H)(hl:∀i σ H,i<=xs.length->Pv i σ H->SqT K H a xs)
  (hs:∀i x σ H,xs[i]? =some x->Pv i σ H->g x σ H fun σ2 H2=>tb {D with nx:=Pv (i+1),ct:=Pv (i+1),bk:=D.nx} σ2 H2) (hd:∀σ H,Pv xs.length σ H->D.nx σ H):
  ∃W:Nat->Nat->St->Hp->Prop,(∃m,W 0 m σ H)/\∀i m σ H,W i m σ H->
   ((Itt K a).stop i H/\D.nx σ H)∨((Itt K a).go i H/\∃N:St->Hp->Prop,(∀σ' H',N σ' H'->∃m',m'<m/\W (i+1) m' σ' H')/\∀x H',(Itt K a).yld i H x H'->g x σ H' fun σ2 H2=>tb {D with nx:=N,ct:=N,bk:=D.nx} σ2 H2):=by
 refine⟨fun i m σ H=>m=xs.length-i/\i<=xs.length/\Pv i σ H,⟨xs.length,by simp,bO _,h0⟩,?_⟩
 rintro i m σ H ⟨rfl,hi,p⟩
 have q:=hl i σ H hi p
 by_cases hlt:i<xs.length
 ·refine .inr ⟨⟨xs,xs[i],q,by simp[hlt]⟩,Pv (i+1),fun σ' H' p'=>⟨xs.length-(i+1),by omega,rfl,hlt,p'⟩,fun x H' y=>?_⟩
  obtain⟨e,y⟩:=y
  subst e
  exact hs i x σ _ (y xs q) p
 ·have e:i=xs.length:=by omega
  subst e
  exact .inl ⟨⟨xs,q,aQ _⟩,hd σ H p⟩
theorem ab2{lo:Int}{n:Nat}{g:TG}{tb:TS}{D:Ends}{σ:St}{H:Hp}(Pv:Nat->St->Hp->Prop)(h0:Pv 0 σ H)
  (hs:∀i σ H,i<n->Pv i σ H->g (.int (lo+i)) σ H fun σ2 H2=>tb {D with nx:=Pv (i+1),ct:=Pv (i+1),bk:=D.nx} σ2 H2) (hd:∀σ H,Pv n σ H->D.nx σ H):
  ∃W:Nat->Nat->St->Hp->Prop,(∃m,W 0 m σ H)/\∀i m σ H,W i m σ H->
   ((Itr lo n).stop i H/\D.nx σ H)∨((Itr lo n).go i H/\∃N:St->Hp->Prop,(∀σ' H',N σ' H'->∃m',m'<m/\W (i+1) m' σ' H')/\∀x H',(Itr lo n).yld i H x H'->g x σ H' fun σ2 H2=>tb {D with nx:=N,ct:=N,bk:=D.nx} σ2 H2):=by
 refine⟨fun i m σ H=>m=n-i/\i<=n/\Pv i σ H,⟨n,by simp,bO _,h0⟩,?_⟩
 rintro i m σ H ⟨rfl,hi,p⟩
 by_cases hlt:i<n
 ·refine .inr ⟨hlt,Pv (i+1),fun σ' H' p'=>⟨n-(i+1),by omega,rfl,hlt,p'⟩,fun x H' y=>?_⟩
  obtain⟨e,y⟩:=y
  subst e y
  exact hs i σ _ hlt p
 ·have e:i=n:=by omega
  subst e
  exact .inl ⟨aQ _,hd σ H p⟩
noncomputable abbrev R2:=V->V->Hp->VK->Prop
noncomputable def OpR(X:Cx)(f:Value->Value->Sem Value)(r:R2):Prop:=
 ∀(pins:List (Addr×Obj)) (s:Shared) (σ:St) (H:Hp) (x y:V) (v u:Value) (Q:VK),Inv X pins σ H s->RelV x v->RelV y u->r x y H Q->
  wpAny (model X.prog X.w) X.A (f v u) (EP X pins σ Q) X.xe s
noncomputable def UnR(X:Cx)(f:Value->Sem Value)(r:V->Hp->VK->Prop):Prop:=
 ∀(pins:List (Addr×Obj)) (s:Shared) (σ:St) (H:Hp) (x:V) (v:Value) (Q:VK),Inv X pins σ H s->RelV x v->r x H Q->
  wpAny (model X.prog X.w) X.A (f v) (EP X pins σ Q) X.xe s
noncomputable def aeK(X:Cx)(f:Value)(r:List V->Hp->VK->Prop):Prop:=
 ∀(pins:List (Addr×Obj)) (s:Shared) (σ:St) (H:Hp) (xs:List V) (us:List Value) (Q:VK),Inv X pins σ H s->Vals xs us->r xs H Q->
  wpAny (model X.prog X.w) X.A (call f us) (EP X pins σ Q) X.xe s
noncomputable def tOp(r:R2)(ta tb:TE):TE:=fun σ H Q=>ta σ H fun x H1=>tb σ H1 fun y H2=>r x y H2 Q
noncomputable def tUn(r:V->Hp->VK->Prop)(ta:TE):TE:=fun σ H Q=>ta σ H fun x H1=>r x H1 Q
noncomputable def rI(C:Int->Int->Prop)(g:Int->Int->V):R2:=fun x y H Q=>∃i j,x=.int i/\y=.int j/\C i j/\Q (g i j) H
noncomputable def rI0(g:Int->Int->V):R2:=fun x y H Q=>∃i j,x=.int i/\y=.int j/\Q (g i j) H
noncomputable def rU(g:Int->V):V->Hp->VK->Prop:=fun x H Q=>∃i,x=.int i/\Q (g i) H
section
variable{X:Cx}{a b c:Expr}{ta tb tc:TE}{pos:Pos}
theorem aDK(ha:PE X a ta)(hb:PE X b tb){pins:List (Addr×Obj)}{s:Shared}{σ:St}{H:Hp}{R:V->V->Hp->Prop}(I:Inv X pins σ H s)
  (h:ta σ H fun x H1=>tb σ H1 fun y H2=>R x y H2) {Q:Value->Shared->Prop} {f:Value->Value->Sem Value}
  (hf:∀v u s2 x y H2,Inv X pins σ H2 s2->RelV x v->RelV y u->R x y H2->wpAny (model X.prog X.w) X.A (f v u) Q X.xe s2):
  wpAny (model X.prog X.w) X.A (eval a X.env) (fun v s₁=>wpAny (model X.prog X.w) X.A (eval b X.env) (fun u s₂=>wpAny (model X.prog X.w) X.A (f v u) Q X.xe s₂) X.xe s₁) X.xe s:=by
 refine thn (ha pins s σ H _ I h) fun v s1 ⟨x,H1,I1,r1,q1⟩=>?_
 refine thn (hb pins s1 σ H1 _ I1 q1) fun u s2 ⟨y,H2,I2,r2,q2⟩=>?_
 exact hf v u s2 x y H2 I2 r1 r2 q2
theorem aMM{op:Operator}{r:R2}(ho:OpR X (binaryOp op) r)(ha:PE X a ta)(hb:PE X b tb):PE X (.BinOp a op b pos) (tOp r ta tb):=by
 intro pins s σ H Q I h
 exact wpAny_BinOp (aDK ha hb I h fun v u s2 x y H2 I2 rx ry q=>ho pins s2 σ H2 x y v u Q I2 rx ry q)
theorem aKL{op:UnaryOp}{r:V->Hp->VK->Prop}(ho:UnR X (unaryOp op) r)(ha:PE X a ta):PE X (.UnaryOp op a pos) (tUn r ta):=by
 intro pins s σ H Q I h
 exact UnaryOp_ (thn (ha pins s σ H _ I h) fun v s1 ⟨x,H1,I1,r1,q1⟩=>ho pins s1 σ H1 x v Q I1 r1 q1)
theorem opI{f:Value->Value->Sem Value}{C:Int->Int->Prop}{g:Int->Int->Int}
  (rule:∀(i j:Int) (t u:Tok) (s:Shared) (Q:Value->Shared->Prop) (E:Value->Shared->Prop),C i j->Q (.int (g i j) s.toks) {s with toks:=s.toks+1}->wpAny (model X.prog X.w) X.A (f (.int i t) (.int j u)) Q E s):
  OpR X f (rI C fun i j=>.int (g i j)):=by
 intro pins s σ H x y v u Q I rx ry h
 obtain⟨i,j,rfl,rfl,hc,q⟩:=h
 obtain⟨t,rfl⟩:=rx
 obtain⟨t',rfl⟩:=ry
 exact rule i j t t' s _ _ hc ⟨.int (g i j),H,I.tok _,⟨_,rfl⟩,q⟩
theorem aAX{f:Value->Value->Sem Value}{g:Int->Int->Int}
  (rule:∀(i j:Int) (t u:Tok) (s:Shared) (Q:Value->Shared->Prop) (E:Value->Shared->Prop),Q (.int (g i j) s.toks) {s with toks:=s.toks+1}->wpAny (model X.prog X.w) X.A (f (.int i t) (.int j u)) Q E s):
  OpR X f (rI0 fun i j=>.int (g i j)):=by
 intro pins s σ H x y v u Q I rx ry h
 obtain⟨i,j,rfl,rfl,q⟩:=h
 obtain⟨t,rfl⟩:=rx
 obtain⟨t',rfl⟩:=ry
 exact rule i j t t' s _ _ ⟨.int (g i j),H,I.tok _,⟨_,rfl⟩,q⟩
theorem aAP{f:Value->Value->Sem Value}{g:Int->Int->Bool}
  (rule:∀(i j:Int) (t u:Tok) (s:Shared) (Q:Value->Shared->Prop) (E:Value->Shared->Prop),Q (.bool (g i j)) s->wpAny (model X.prog X.w) X.A (f (.int i t) (.int j u)) Q E s):
  OpR X f (rI0 fun i j=>.bl (g i j)):=by
 intro pins s σ H x y v u Q I rx ry h
 obtain⟨i,j,rfl,rfl,q⟩:=h
 obtain⟨t,rfl⟩:=rx
 obtain⟨t',rfl⟩:=ry
 exact rule i j t t' s _ _ ⟨.bl (g i j),H,I,rfl,q⟩
noncomputable def aIE(i j:Int):Prop:=0<j/\j<1073741824
noncomputable def aAC(i j:Int):Prop:=0<=j/\j<=1000000/\i.natAbs<2^64
noncomputable def CMul(i j:Int):Prop:=(-(2^64)<i/\i<2^64)∨(-(2^64)<j/\j<2^64)
theorem CMul.ok{i j:Int}(h:CMul i j):IntMulOk i j:=by
 rcases h with ⟨h1,h2⟩ | ⟨h1,h2⟩
 ·exact .of_left (intBits_le_64 h1 h2)
 ·exact .of_right (intBits_le_64 h1 h2)
theorem asO(k:Nat):(0:Int)<=2^k:=by
 rw[two_pow_cast]
 exact cW _
theorem aFE:OpR X (binaryOp .Add) (rI0 fun i j=>.int (i+j)):=aAX fun _ _ _ _ _ _ _ q=>add_int q
theorem aE4:OpR X (binaryOp .Sub) (rI0 fun i j=>.int (i-j)):=aAX fun _ _ _ _ _ _ _ q=>sub_int q
theorem aDG:OpR X (binaryOp .Mult) (rI CMul fun i j=>.int (i*j)):=opI fun _ _ _ _ _ _ _ hc q=>mul_int q hc.ok
theorem aBX:OpR X (binaryOp .FloorDiv) (rI aIE fun i j=>.int (i / j)):=opI fun i j _ _ _ _ _ hc q=>by
 have h1:(0:Int)<j:=hc.1
 have h2:j<1073741824:=hc.2
 exact floordiv_int (by omega) (by rw[Int.fdiv_eq_ediv_of_nonneg i (by omega)];exact q) (.inl (PyProof.noPylong_small (by omega)))
theorem aDT:OpR X (binaryOp .Mod) (rI (fun _ j=>0<j) fun i j=>.int (i%j)):=opI fun i j _ _ _ _ _ hc q=>by
 have h1:(0:Int)<j:=hc
 exact mod_int' (by omega) (by rw[Int.fmod_eq_emod_of_nonneg i (by omega)];exact q)
theorem aFJ:OpR X (binaryOp .Pow) (rI aAC fun i j=>.int (i^j.toNat)):=opI fun _ _ _ _ _ _ _ hc q=>pow_int_small hc.1 hc.2.1 hc.2.2 q
theorem aEP:OpR X (binaryOp .LShift) (rI aAC fun i j=>.int (i*2^j.toNat)):=opI fun _ _ _ _ _ _ _ hc q=>lshift_int_small hc.1 hc.2.1 hc.2.2 q
theorem aE7:OpR X (binaryOp .RShift) (rI (fun _ j=>0<=j) fun i j=>.int (i / 2^j.toNat)):=opI fun i j _ _ _ _ _ hc q=>
 rshift_int hc (by rw[Int.fdiv_eq_ediv_of_nonneg i (asO _)];exact q)
theorem aEA:OpR X (binaryOp .BitAnd) (rI0 fun i j=>.int (Builtin.bitAnd i j)):=aAX fun _ _ _ _ _ _ _ q=>and_int q
theorem aL7:OpR X (binaryOp .BitOr) (rI0 fun i j=>.int (Builtin.bitOr i j)):=aAX fun _ _ _ _ _ _ _ q=>or_int q
theorem unI{f:Value->Sem Value}{g:Int->Int}
  (rule:∀(i:Int) (t:Tok) (s:Shared) (Q:Value->Shared->Prop) (E:Value->Shared->Prop),Q (.int (g i) s.toks) {s with toks:=s.toks+1}->wpAny (model X.prog X.w) X.A (f (.int i t)) Q E s):
  UnR X f (rU fun i=>.int (g i)):=by
 intro pins s σ H x v Q I rx h
 obtain⟨i,rfl,q⟩:=h
 obtain⟨t,rfl⟩:=rx
 exact rule i t s _ _ ⟨.int (g i),H,I.tok _,⟨_,rfl⟩,q⟩
theorem aDF:UnR X (unaryOp .USub) (rU fun i=>.int (-i)):=unI fun _ _ _ _ _ q=>neg_int q
end
noncomputable def aOU:V->V->Bool
 |.non,.non=>true | .non,.int _=>true | .int _,.non=>true | .non,.bl _=>true | .bl _,.non=>true | .non,.str _=>true | .str _,.non=>true
 |.int _,.int _=>true | .bl _,.bl _=>true | .str _,.str _=>true | .byt _,.byt _=>true
 |.int _,.str _=>true | .str _,.int _=>true | .bl _,.str _=>true | .str _,.bl _=>true
 |_,_=>false
noncomputable def rEq:R2:=fun x y H Q=>aOU x y=true/\Q (.bl (decide (x=y))) H
noncomputable def rNe:R2:=fun x y H Q=>aOU x y=true/\Q (.bl (!decide (x=y))) H
theorem au7{i j:Int}:decide (V.int i=V.int j)=(i==j):=by
 rw[cN]
 simp
theorem ayU{i j:Bool}:decide (V.bl i=V.bl j)=(i==j):=by
 rw[cN]
 simp
theorem avB{i j:Str}:decide (V.str i=V.str j)=(i==j):=by
 rw[cN]
 simp
theorem au2{i j:Array UInt8}:decide (V.byt i=V.byt j)=(i.toList==j.toList):=by
 rw[cN]
 cases i
 cases j
 simp
section
variable{X:Cx}{a b c:Expr}{ta tb tc:TE}{pos:Pos}
theorem aaR{pins:List (Addr×Obj)}{σ:St}{H:Hp}{s:Shared}{Q:VK}{k k':Bool}(I:Inv X pins σ H s)(q:Q (.bl k) H)(e:k=k'):EP X pins σ Q (.bool k') s:=by
 subst e
 exact⟨.bl k,H,I,rfl,q⟩
theorem aPP:OpR X (compareOp .Eq) rEq:=by
 intro pins s σ H x y v u Q I rx ry h
 obtain⟨hs,q⟩:=h
 cases x with
 |non=>
  cases rx
  cases y with
  |non=>cases ry;exact PySem.EqNone.eq_none_none (aaR I q (by simp))
  |bl j=>cases ry;exact PySem.EqNone.eq_none_bool (aaR I q (by simp))
  |int j=>obtain⟨t',rfl⟩:=ry;exact PySem.EqNone.eq_none_int (aaR I q (by simp))
  |str j=>obtain⟨t',rfl⟩:=ry;exact PySem.EqNone.eq_none_str (aaR I q (by simp))
  |_=>exact absurd (show false=true from hs) a9
 |bl i=>
  cases rx
  cases y with
  |non=>cases ry;exact PySem.EqNone.eq_bool_none (aaR I q (by simp))
  |bl j=>cases ry;exact eq_bool (aaR I q ayU)
  |str j=>obtain⟨t',rfl⟩:=ry;exact PySem.EqMixed.eq_bool_str (aaR I q (by simp))
  |_=>exact absurd (show false=true from hs) a9
 |int i=>
  obtain⟨t,rfl⟩:=rx
  cases y with
  |non=>cases ry;exact PySem.EqNone.eq_int_none (aaR I q (by simp))
  |int j=>obtain⟨t',rfl⟩:=ry;exact eq_int (aaR I q au7)
  |str j=>obtain⟨t',rfl⟩:=ry;exact PySem.EqMixed.eq_int_str (aaR I q (by simp))
  |_=>exact absurd (show false=true from hs) a9
 |str i=>
  obtain⟨t,rfl⟩:=rx
  cases y with
  |non=>cases ry;exact PySem.EqNone.eq_str_none (aaR I q (by simp))
  |bl j=>cases ry;exact PySem.EqMixed.eq_str_bool (aaR I q (by simp))
  |int j=>obtain⟨t',rfl⟩:=ry;exact PySem.EqMixed.eq_str_int (aaR I q (by simp))
  |str j=>obtain⟨t',rfl⟩:=ry;exact eq_str (aaR I q avB)
  |_=>exact absurd (show false=true from hs) a9
 |byt i=>
  obtain⟨t,rfl⟩:=rx
  cases y with
  |byt j=>obtain⟨t',rfl⟩:=ry;exact PySem.W.eq_bytes (aaR I q au2)
  |_=>exact absurd (show false=true from hs) a9
 |_=>cases y<;>exact absurd (show false=true from hs) a9
theorem aKH:OpR X (compareOp .NotEq) rNe:=by
 intro pins s σ H x y v u Q I rx ry h
 obtain⟨hs,q⟩:=h
 cases x with
 |non=>
  cases rx
  cases y with
  |non=>cases ry;exact PySem.EqNone.ne_none_none (aaR I q (by simp))
  |bl j=>cases ry;exact PySem.EqNone.ne_none_bool (aaR I q (by simp))
  |int j=>obtain⟨t',rfl⟩:=ry;exact PySem.EqNone.ne_none_int (aaR I q (by simp))
  |str j=>obtain⟨t',rfl⟩:=ry;exact PySem.EqNone.ne_none_str (aaR I q (by simp))
  |_=>exact absurd (show false=true from hs) a9
 |bl i=>
  cases rx
  cases y with
  |non=>cases ry;exact PySem.EqNone.ne_bool_none (aaR I q (by simp))
  |bl j=>cases ry;exact ne_bool (aaR I q (congrArg not ayU))
  |str j=>obtain⟨t',rfl⟩:=ry;exact PySem.EqMixed.ne_bool_str (aaR I q (by simp))
  |_=>exact absurd (show false=true from hs) a9
 |int i=>
  obtain⟨t,rfl⟩:=rx
  cases y with
  |non=>cases ry;exact PySem.EqNone.ne_int_none (aaR I q (by simp))
  |int j=>obtain⟨t',rfl⟩:=ry;exact ne_int (aaR I q (congrArg not au7))
  |str j=>obtain⟨t',rfl⟩:=ry;exact PySem.EqMixed.ne_int_str (aaR I q (by simp))
  |_=>exact absurd (show false=true from hs) a9
 |str i=>
  obtain⟨t,rfl⟩:=rx
  cases y with
  |non=>cases ry;exact PySem.EqNone.ne_str_none (aaR I q (by simp))
  |bl j=>cases ry;exact PySem.EqMixed.ne_str_bool (aaR I q (by simp))
  |int j=>obtain⟨t',rfl⟩:=ry;exact PySem.EqMixed.ne_str_int (aaR I q (by simp))
  |str j=>obtain⟨t',rfl⟩:=ry;exact ne_str (aaR I q (congrArg not avB))
  |_=>exact absurd (show false=true from hs) a9
 |byt i=>
  obtain⟨t,rfl⟩:=rx
  cases y with
  |byt j=>obtain⟨t',rfl⟩:=ry;exact PySem.W.ne_bytes (aaR I q (congrArg not au2))
  |_=>exact absurd (show false=true from hs) a9
 |_=>cases y<;>exact absurd (show false=true from hs) a9
theorem aHS:OpR X (compareOp .Lt) (rI0 fun i j=>.bl (decide (i<j))):=aAP fun _ _ _ _ _ _ _ q=>lt_int q
theorem aPZ:OpR X (compareOp .LtE) (rI0 fun i j=>.bl (decide (i<=j))):=aAP fun _ _ _ _ _ _ _ q=>le_int q
theorem aI0:OpR X (compareOp .Gt) (rI0 fun i j=>.bl (decide (j<i))):=aAP fun _ _ _ _ _ _ _ q=>gt_int q
theorem aI3:OpR X (compareOp .GtE) (rI0 fun i j=>.bl (decide (j<=i))):=aAP fun _ _ _ _ _ _ _ q=>ge_int q
theorem awG:OpR X (compareOp .In) (fun x y H Q=>∃i j,x=.str i/\y=.str j/\Q (.bl (!(Builtin.Str.occurrences j i 0 j.length 1).isEmpty)) H):=by
 intro pins s σ H x y v u Q I rx ry h
 obtain⟨i,j,rfl,rfl,q⟩:=h
 obtain⟨t,rfl⟩:=rx
 obtain⟨t',rfl⟩:=ry
 exact in_str (aaR I q rfl)
theorem aEG:OpR X (compareOp .Is) (fun x y H Q=>y=.non/\Q (.bl (decide (x=.non))) H):=by
 intro pins s σ H x y v u Q I rx ry h
 obtain⟨rfl,q⟩:=h
 cases ry
 refine is_none_gen (aaR I q ?_)
 cases x<;>first
  |(cases rx;rfl)
  |(obtain⟨t,rfl⟩:=rx;rfl)
theorem aAL:OpR X (compareOp .IsNot) (fun x y H Q=>y=.non/\Q (.bl (!decide (x=.non))) H):=by
 intro pins s σ H x y v u Q I rx ry h
 obtain⟨rfl,q⟩:=h
 cases ry
 refine isnot_none_gen (aaR I q ?_)
 cases x<;>first
  |(cases rx;rfl)
  |(obtain⟨t,rfl⟩:=rx;rfl)
theorem ay0(b:Expr){op:CmpOp}(h:op≠ .In:=by decide)(h2:op≠ .NotIn:=by decide):behindInMarks op b=false:=by
 have e1:(op==CmpOp.In)=false:=by cases op<;>first | rfl | exact absurd rfl h
 have e2:(op==CmpOp.NotIn)=false:=by cases op<;>first | rfl | exact absurd rfl h2
 cases b<;>simp[behindInMarks,e1,e2]
theorem aAZ{op:CmpOp}{r:R2}(ho:OpR X (compareOp op) r)(ha:PE X a ta)(hb:PE X b tb)(hm:behindInMarks op b=false):PE X (.Compare a [op] [b] pos) (tOp r ta tb):=by
 intro pins s σ H Q I h
 exact wpAny_Compare1 (aDK ha hb I h fun v u s2 x y H2 I2 rx ry q=>ho pins s2 σ H2 x y v u Q I2 rx ry q) hm
noncomputable def auK(t:TE):TT:=fun σ H Q=>t σ H fun x H'=>∃k,x=.bl k/\Q k H'
theorem aBS{op:CmpOp}{r:R2}(ho:OpR X (compareOp op) r)(ha:PE X a ta)(hb:PE X b tb)(hm:behindInMarks op b=false):PT X (.Compare a [op] [b] pos) (auK (tOp r ta tb)):=by
 intro pins s σ H Q I h
 refine wpAny_isTrue_Compare1 (thn (ha pins s σ H _ I h) fun v s1 ⟨x,H1,I1,r1,q1⟩=>thn (hb pins s1 σ H1 _ I1 q1) fun u s2 ⟨y,H2,I2,r2,q2⟩=>
  thn (ho pins s2 σ H2 x y v u _ I2 r1 r2 q2) fun c s3 ⟨z,H3,I3,r3,k,e,q3⟩=>?_) hm
 subst e
 cases r3
 exact dY ⟨H3,I3,q3⟩
noncomputable def an2(r r':R2)(ta tb tc:TE):TE:=fun σ H Q=>ta σ H fun x H1=>tb σ H1 fun y H2=>r x y H2 fun z H3=>∃k,z=.bl k/\
 (if k=true then tc σ H3 fun w' H4=>r' y w' H4 Q else Q (.bl false) H3)
theorem azH{op op':CmpOp}{r r':R2}(ho:OpR X (compareOp op) r)(ho':OpR X (compareOp op') r')(ha:PE X a ta)(hb:PE X b tb)(hc:PE X c tc)
  (hm:lastMarks [op,op'] [b,c]=false:=by with_unfolding_all rfl):PE X (.Compare a [op,op'] [b,c] pos) (an2 r r' ta tb tc):=by
 intro pins s σ H Q I h
 refine Compare_chain (thn (ha pins s σ H _ I h) fun v s1 ⟨x,H1,I1,r1,q1⟩=>chain_link (thn (hb pins s1 σ H1 _ I1 q1) fun u s2 ⟨y,H2,I2,r2,q2⟩=>
  thn (ho pins s2 σ H2 x y v u _ I2 r1 r2 q2) fun d s3 ⟨z,H3,I3,r3,k,e,q3⟩=>?_)) hm
 subst e
 cases r3
 refine dY ?_
 cases k with
 |false=>exact ite_ff ⟨.bl false,H3,I3,rfl,q3⟩
 |true=>exact ite_tt (chain_last (thn (hc pins s3 σ H3 _ I3 q3) fun w' s4 ⟨z',H4,I4,r4,q4⟩=>ho' pins s4 σ H4 y z' u w' Q I4 r2 r4 q4))
theorem axH{op op':CmpOp}{r r':R2}(ho:OpR X (compareOp op) r)(ho':OpR X (compareOp op') r')(ha:PE X a ta)(hb:PE X b tb)(hc:PE X c tc)
  (hm:lastMarks [op,op'] [b,c]=false:=by with_unfolding_all rfl):PT X (.Compare a [op,op'] [b,c] pos) (auK (an2 r r' ta tb tc)):=by
 intro pins s σ H Q I h
 refine isTrue_chain (thn (ha pins s σ H _ I h) fun v s1 ⟨x,H1,I1,r1,q1⟩=>test_link (thn (hb pins s1 σ H1 _ I1 q1) fun u s2 ⟨y,H2,I2,r2,q2⟩=>
  thn (ho pins s2 σ H2 x y v u _ I2 r1 r2 q2) fun d s3 ⟨z,H3,I3,r3,k,e,q3⟩=>?_)) hm
 subst e
 cases r3
 refine dY ?_
 cases k with
 |false=>
  obtain⟨k',e',q'⟩:=q3
  cases e'
  exact ite_ff ⟨H3,I3,q'⟩
 |true=>
  refine ite_tt (test_last (thn (hc pins s3 σ H3 _ I3 q3) fun w' s4 ⟨z',H4,I4,r4,q4⟩=>thn (ho' pins s4 σ H4 y z' u w' _ I4 r2 r4 q4) fun d' s5 ⟨z2,H5,I5,r5,k2,e2,q5⟩=>?_))
  subst e2
  cases r5
  exact dY ⟨H5,I5,q5⟩
theorem ah6:(sizeLine:Nat)<2^63:=by rw[dN];decide
theorem asZ:OpR X (binaryOp .Add) (fun x y H Q=>∃i j,x=.str i/\y=.str j/\i.length+j.length<=sizeLine/\Q (.str (i++j)) H):=by
 intro pins s σ H x y v u Q I rx ry h
 obtain⟨i,j,rfl,rfl,hz,q⟩:=h
 obtain⟨t,rfl⟩:=rx
 obtain⟨t',rfl⟩:=ry
 exact add_str (fun t' tk=>⟨.str (i++j),H,I.tok _,⟨_,rfl⟩,q⟩) hz
theorem ac3{x:V}{us:List Value}(r:Vals [x] us):∃u,us=[u]/\RelV x u:=by
 cases r with
 |cons r1 r2=>cases r2;exact⟨_,rfl,r1⟩
theorem au0{x y:V}{us:List Value}(r:Vals [x,y] us):∃u w',us=[u,w']/\RelV x u/\RelV y w':=by
 cases r with
 |cons r1 r2=>
  cases r2 with
  |cons r3 r4=>cases r4;exact⟨_,_,rfl,r1,r3⟩
theorem azV:aeK X (.builtin "abs") (fun xs H Q=>∃i,xs=[.int i]/\Q (.int (if i<0 then -i else i)) H):=by
 intro pins s σ H xs us Q I r h
 obtain⟨i,rfl,q⟩:=h
 obtain⟨u,rfl,t,rfl⟩:=ac3 r
 exact call_abs_int fun u tk=>⟨.int (if i<0 then -i else i),H,I.tok _,⟨_,rfl⟩,q⟩
theorem awE(hc:X.calm=true):aeK X (.builtin "max") (fun xs H Q=>∃i j,xs=[.int i,.int j]/\Q (.int (if j>i then j else i)) H):=by
 intro pins s σ H xs us Q I r h
 obtain⟨i,j,rfl,q⟩:=h
 obtain⟨u,w',rfl,⟨t,rfl⟩,⟨t',rfl⟩⟩:=au0 r
 refine max_two_ints (I.ok.hd hc) fun h' tk k=>⟨_,H,I.kept k,?_,q⟩
 by_cases hj:j>i
 ·rw[if_pos hj,if_pos hj];exact⟨_,rfl⟩
 ·rw[if_neg hj,if_neg hj];exact⟨_,rfl⟩
theorem awM(hc:X.calm=true):aeK X (.builtin "min") (fun xs H Q=>∃i j,xs=[.int i,.int j]/\Q (.int (if j<i then j else i)) H):=by
 intro pins s σ H xs us Q I r h
 obtain⟨i,j,rfl,q⟩:=h
 obtain⟨u,w',rfl,⟨t,rfl⟩,⟨t',rfl⟩⟩:=au0 r
 refine min_two_ints (I.ok.hd hc) fun h' tk k=>⟨_,H,I.kept k,?_,q⟩
 by_cases hj:j<i
 ·rw[if_pos hj,if_pos hj];exact⟨_,rfl⟩
 ·rw[if_neg hj,if_neg hj];exact⟨_,rfl⟩
theorem agH:aeK X (.type "str") (fun xs H Q=>∃i,xs=[.int i]/\i.natAbs.log2<1920/\Q (.str (toString i)) H):=by
 intro pins s σ H xs us Q I r h
 obtain⟨i,rfl,hz,q⟩:=h
 obtain⟨u,rfl,t,rfl⟩:=ac3 r
 exact PySem.P.str_of_int hz ⟨.str _,H,I.tok _,⟨_,rfl⟩,q⟩
end
structure ObjM(h:Heap)(x dx C:Addr)(mA:Str->Option Value):Prop where
 obj:h.get? x=some (PySem.W.instObj C dx)
 ns:h.Ns1 dx mA
 ne:dx≠x
theorem awB{h:Heap}{dx:Addr}{mA:Str->Option Value}(n:h.Ns1 dx mA):∃od,h.get? dx=some od/\∀name,PySem.W.lookIn name od=some (mA name):=by
 obtain⟨o,es,ep,ho,hd,hk,_,hm⟩:=n
 refine⟨o,ho,fun name=>?_⟩
 have e:=hm name
 unfold nsFind findBy at e
 rw[←Array.find?_toList] at e
 unfold PySem.W.lookIn
 rw[hd]
 dsimp only
 split
 ·rename_i y q
  rw[q] at e
  exact congrArg some e
 ·rename_i q
  rw[q] at e
  have a:es.toList.any (·.refKey)=false:=by
   rw[cX]
   intro y hy
   obtain⟨z,t,hkey⟩:=hk y (Array.mem_toList_iff.mp hy)
   simp[DictEntry.refKey,hkey]
  have a':¬es.toList.any (·.refKey)=true:=by rw[a];exact a9
  rw[if_neg a']
  exact congrArg some e
theorem ObjM.look{h:Heap}{x dx C:Addr}{mA:Str->Option Value}(I:ObjM h x dx C mA):∃od,PySem.W.InstAt h x (PySem.W.instObj C dx) C (some od)/\∀name,PySem.W.lookIn name od=some (mA name):=
 let ⟨od,ho,hl⟩:=awB I.ns
 ⟨od,⟨I.obj,rfl,rfl,ho⟩,hl⟩
section
variable{prog:Program}{w:World}{A:Around}{E:Value->Shared->Prop}{s:Shared}{K:FG}{x dx C f:Addr}{mA:Str->Option Value}{name:Str}{v:Value}
theorem aBV{expr:Bool}{Q:Value->Shared->Prop}(X:K.In s.heap)(I:ObjM s.heap x dx C mA)(hg:PySem.W.plainGet K C name=true)(hh:PySem.W.hasDictIn K C=true)
  (ha:PySem.W.findIn K (.ref C) name=some none) (hv:mA name=some v) (hv':PySem.W.handedIn v=true) (h:Q v {s with toks:=s.toks+1}):
  wpAny (model prog w) A (getAttr (.ref x) name expr) Q E s:=by
 obtain⟨od,J,hl⟩:=I.look
 exact PySem.W.get_value X J (PySem.W.plainGet_of hg).1 (PySem.W.findObj_own hh ha rfl (by rw[hl,hv])) hv' h
theorem axV{pl:Sem Bool}{Q:Value×List Value->Shared->Prop}(X:K.In s.heap)(I:ObjM s.heap x dx C mA)(hg:PySem.W.plainGet K C name=true)
  (hf:PySem.W.findIn K (.ref C) name=some (some (.ref f))) (ht:PySem.W.isFn K (.ref f)=true) (hv:mA name=none) (h:Q (.ref f,[.ref x]) s):
  wpAny (model prog w) A (getMethod (.ref x) name pl) Q E s:=by
 obtain⟨od,J,hl⟩:=I.look
 exact PySem.W.method_fn X J (PySem.W.plainGet_of hg).1 (PySem.W.plainGet_of hg).2 hf (beq_iff_eq.mp ht) (by show (PySem.W.lookIn name od).map (·.isSome)=some false;rw[hl,hv];rfl) h
theorem aBI{ns:List Str}{Q:Unit->Shared->Prop}(X:K.In s.heap)(I:ObjM s.heap x dx C mA)
  (hs:PySem.W.findIn K (.ref C) "__setattr__"=some (some (.builtin "object.__setattr__"))) (hp:PySem.W.plainOver K C=true) (ht:PySem.W.takerIn K C name=some none) (hh:PySem.W.hasDictIn K C=true)
  (hw:PySem.Within mA ns) (hsz:ns.length<=sizeLine)
  (h:∀h',ObjM h' x dx C (fun y=>if y=name then some v else mA y)->Heap.SameBut dx s.heap h'->Q () {s with heap:=h',toks:=s.toks+2}):
  wpAny (model prog w) A (setAttr (.ref x) name v) Q E s:=by
 obtain⟨od,J,hl⟩:=I.look
 refine PySem.W.set_plain X J hs (PySem.W.osa_open (s:={s with toks:=s.toks+1}) (r:=none) X J hp ht fun b=>?_)
 obtain⟨cd,hc,hd'⟩:=PySem.W.any_some hh
 have hx:s.heap.get? x=some ⟨.ref C,some dx,.plain,#[]⟩:=I.obj
 refine dJ (dX (dJ (dJ (wpAny_loadPart hx (dJ (PySem.W.Looks.here (s:={s with toks:=s.toks+1}) (PySem.W.looks_clsIn X hc) ?_))))))
 rw[hd']
 refine dX (a:=some dx) (dJ (dX (dJ ?_)))
 refine wpAny_nsSet1 (s:={s with toks:=s.toks+1}) I.ns fun h' hn2 hs2=>?_
 obtain⟨oD,esD,epD,hoD,hdD,hcD⟩:=hn2.count (PySem.Within.cons name v hw)
 refine dJ (wpAny_lookBehind hoD (by rw[hdD];exact pastItsLine_dict (bE hcD (by rw[bU];omega))) ?_)
 exact dX (h _ ⟨(hs2.2 _ (Ne.symm I.ne)).trans I.obj,hn2,I.ne⟩ hs2)
theorem ay5{R:Result->Shared->Prop}{vs:List Value}{kw:List (Str×Value)}(X:K.In s.heap)(hm:PySem.W.makesIn K C=true)
  (hi:PySem.W.findIn K (.ref C) "__init__"=some (some (.ref f))) (hf:PySem.W.typeIn K (.ref f)=some (.type "function"))
  (h:codeAny (model prog w) (A.under (.builtin "type.__call__" ⟨.ref C::vs,kw⟩)) (.call (.ref f) ⟨.ref (s.heap.objs.size+1)::vs,kw⟩) (PySem.W.InitBack (s.heap.objs.size+1) R)
   {s with heap:=(s.heap.push PySem.W.emptyDict).push (PySem.W.instObj C s.heap.objs.size)}):
  codeAny (model prog w) A (.call (.ref C) ⟨vs,kw⟩) R s:=by
 obtain⟨hh,g,d,t,os⟩:=s
 exact PySem.W.make_core (PySem.W.makes_of X hm) (PySem.W.looks_findIn X hi) (fun self=>PySem.W.bind_fn X self hf) (.inl rfl) h
theorem avV{R:Result->Shared->Prop}(X:K.In s.heap)(hm:PySem.W.makesIn K C=true)
  (hi:PySem.W.findIn K (.ref C) "__init__"=some (some (.builtin "object.__init__")))
  (hb:∀self,PySem.W.Looks (model prog w) s.heap (bindSpecial (.builtin "object.__init__") self) (.builtin "object.__init__",[self]))
  (h:codeAny (model prog w) (A.under (.builtin "type.__call__" ⟨[.ref C],[]⟩)) (.call (.builtin "object.__init__") ⟨[.ref (s.heap.objs.size+1)],[]⟩) (PySem.W.InitBack (s.heap.objs.size+1) R)
   {s with heap:=(s.heap.push PySem.W.emptyDict).push (PySem.W.instObj C s.heap.objs.size)}):
  codeAny (model prog w) A (.call (.ref C) ⟨[],[]⟩) R s:=by
 obtain⟨hh,g,d,t,os⟩:=s
 exact PySem.W.make_core (PySem.W.makes_of X hm) (PySem.W.looks_findIn X hi) hb (.inr ⟨rfl,rfl⟩) h
end
noncomputable def aaT(f:Str)(v:V):List (Str×V)->List (Str×V)
 |[]=>[(f,v)]
 |(g,x)::r=>if g=f then (g,v)::r else (g,x)::aaT f v r
theorem aaE(f g:Str)(v:V):∀fs:List (Str×V),(aaT f v fs).lookup g=if g=f then some v else fs.lookup g
 |[]=>by
  show List.lookup g [(f,v)]=_
  by_cases h:g=f
  ·have hb:(g==f)=true:=beq_iff_eq.mpr h
   simp only[List.lookup,hb,if_pos h]
  ·have hb:(g==f)=false:=beq_eq_false_iff_ne.mpr h
   simp only[List.lookup,hb,if_neg h]
 |(k,x)::r=>by
  have ih:=aaE f g v r
  rw[show aaT f v ((k,x)::r)=(if k=f then (k,v)::r else (k,x)::aaT f v r) from rfl]
  by_cases hk:k=f
  ·rw[if_pos hk]
   by_cases h:g=k
   ·have hb:(g==k)=true:=beq_iff_eq.mpr h
    simp only[List.lookup,hb,if_pos (h.trans hk)]
   ·have hb:(g==k)=false:=beq_eq_false_iff_ne.mpr h
    simp only[List.lookup,hb,if_neg (fun e:g=f=>h (e.trans hk.symm))]
  ·rw[if_neg hk]
   by_cases h:g=k
   ·have hb:(g==k)=true:=beq_iff_eq.mpr h
    simp only[List.lookup,hb,if_neg (fun e:g=f=>hk (h.symm.trans e))]
   ·have hb:(g==k)=false:=beq_eq_false_iff_ne.mpr h
    simp only[List.lookup,hb]
    exact ih
theorem ah0(f:Str)(v:V):∀fs:List (Str×V),f∈(aaT f v fs).map (·.1)/\∀g,g∈fs.map (·.1)->g∈(aaT f v fs).map (·.1)
 |[]=>⟨by simp[aaT],fun g h=>by simp at h⟩
 |(k,x)::r=>by
  obtain⟨i1,i2⟩:=ah0 f v r
  rw[show aaT f v ((k,x)::r)=(if k=f then (k,v)::r else (k,x)::aaT f v r) from rfl]
  by_cases hk:k=f
  ·rw[if_pos hk]
   subst hk
   exact⟨by simp,fun g h=>by simpa using h⟩
  ·rw[if_neg hk]
   refine⟨?_,fun g h=>?_⟩
   ·rw[bC]
    exact bY _ i1
   ·rw[bC] at h ⊢
    rcases aW.mp h with e | e
    ·exact aW.mpr (.inl e)
    ·exact bY _ (i2 g e)
theorem aiT(f:Str)(v:V):∀fs:List (Str×V),(aaT f v fs).length<=fs.length+1
 |[]=>by simp[aaT]
 |(k,x)::r=>by
  have ih:=aiT f v r
  rw[show aaT f v ((k,x)::r)=(if k=f then (k,v)::r else (k,x)::aaT f v r) from rfl]
  by_cases hk:k=f
  ·rw[if_pos hk,bU,bU];omega
  ·rw[if_neg hk,bU,bU];omega
theorem RelO.some_of{v:V}{o:Option Value}(r:RelO (some v) o):∃u,o=some u/\RelV v u:=by
 cases o with
 |none=>exact (show False from r).elim
 |some u=>exact⟨u,rfl,r⟩
theorem RelO.none_of{o:Option Value}(r:RelO none o):o=none:=by
 cases o with
 |none=>rfl
 |some u=>exact (show False from r).elim
theorem aw2{v:V}{u:Value}(r:RelV v u):PySem.W.handedIn u=true:=by
 cases v with
 |non=>cases (show u=Value.none from r);rfl
 |bl b=>cases (show u=Value.bool b from r);rfl
 |int i=>obtain⟨t,e⟩:=(show ∃t,u=Value.int i t from r);cases e;rfl
 |str x=>obtain⟨t,e⟩:=(show ∃t,u=Value.str x t from r);cases e;rfl
 |byt b=>obtain⟨t,e⟩:=(show ∃t,u=Value.bytes b t from r);cases e;rfl
 |flt b=>obtain⟨t,e⟩:=(show ∃t,u=Value.float b t from r);cases e;rfl
 |ref a=>cases (show u=Value.ref a from r);rfl
 |ty n=>cases (show u=Value.type n from r);rfl
section
variable{P:Program}{w:World}{H H':Hp}{h h':Heap}{a C dx:Addr}{fs fs':List (Str×V)}
theorem an4(hok:HOk P w H h)(e:H a=some (.ins C dx fs)):∃mA,ObjM h a dx C mA/\(∀f,RelO (fs.lookup f) (mA f))/\PySem.Within mA (fs.map (·.1))/\fs.length<=1000/\H dx=some (.own a):=by
 obtain⟨d,z,ne,ob,mA,n,r,q⟩:=(show ObjOk P w H h a (.ins C dx fs) from hok a _ e)
 exact⟨mA,⟨ob,n,ne⟩,r,q,z,d⟩
end
structure Cls(K:FG)(C:Addr):Prop where
 pg:PySem.W.plainGet K C Str.empty=true
 hd:PySem.W.hasDictIn K C=true
 po:PySem.W.plainOver K C=true
 sa:PySem.W.findIn K (.ref C) "__setattr__"=some (some (.builtin "object.__setattr__"))
theorem Cls.get{K:FG}{C:Addr}(c:Cls K C)(f:Str):PySem.W.plainGet K C f=true:=c.pg
noncomputable def NoAttr(K:FG)(C:Addr)(f:Str):Prop:=PySem.W.findIn K (.ref C) f=some none
theorem NoAttr.taker{K:FG}{C:Addr}{f:Str}(n:NoAttr K C f):PySem.W.takerIn K C f=some none:=by
 unfold PySem.W.takerIn
 rw[show PySem.W.findIn K (.ref C) f=some none from n]
 rfl
structure Meth(K:FG)(C:Addr)(m:Str)(f:Addr):Prop where
 at_:PySem.W.findIn K (.ref C) m=some (some (.ref f))
 fn:PySem.W.isFn K (.ref f)=true
 kp:PySem.W.keepIn K (.ref f)=true
section
variable{X:Cx}{pins:List (Addr×Obj)}{σ:St}{H:Hp}{s:Shared}{a C dx:Addr}{fs:List (Str×V)}{f:Str}{v:V}{A:Around}{E:Value->Shared->Prop}
theorem as2{b:Bool}{Q:Value->Shared->Prop}(I:Inv X pins σ H s)(e:H a=some (.ins C dx fs))(c:Cls X.K C)(n:NoAttr X.K C f)(l:fs.lookup f=some v)
  (h:∀u s',Inv X pins σ H s'->RelV v u->Q u s'):wpAny (model X.prog X.w) A (getAttr (.ref a) f b) Q E s:=by
 obtain⟨mA,O,r,_,_,_⟩:=an4 I.hok e
 obtain⟨u,hu,ru⟩:=RelO.some_of (v:=v) (o:=mA f) (by rw[←l];exact r f)
 exact aBV I.kIn O (c.get f) c.hd n hu (aw2 ru) (h u _ (I.tok _) ru)
theorem akD{m:Str}{g:Addr}{pl:Sem Bool}{Q:Value×List Value->Shared->Prop}(I:Inv X pins σ H s)(e:H a=some (.ins C dx fs))(c:Cls X.K C)(k:Meth X.K C m g)(l:fs.lookup m=none)
  (h:Q (.ref g,[.ref a]) s):wpAny (model X.prog X.w) A (getMethod (.ref a) m pl) Q E s:=by
 obtain⟨mA,O,r,_,_,_⟩:=an4 I.hok e
 have hn:mA m=none:=RelO.none_of (by rw[←l];exact r m)
 exact axV I.kIn O (c.get m) k.at_ k.fn hn h
theorem atU{y:V}{u:Value}{Q:Unit->Shared->Prop}(I:Inv X pins σ H s)(e:H a=some (.ins C dx fs))(c:Cls X.K C)(n:NoAttr X.K C f)(hl:fs.length<1000)(ry:RelV y u)
  (h:∀s',Inv X pins σ (upd H a (.ins C dx (aaT f y fs))) s'->Q () s'):wpAny (model X.prog X.w) A (setAttr (.ref a) f u) Q E s:=by
 obtain⟨mA,O,r,wi,_,ho⟩:=an4 I.hok e
 have hz:(fs.map (·.1)).length<=sizeLine:=by rw[aR,dN];omega
 refine aBI I.kIn O c.sa c.po n.taker c.hd wi hz fun h' O' sb=>h _ ?_
 have hd:∃o,h'.get? dx=some o:=let ⟨o,_,_,e',_⟩:=O'.ns;⟨o,e'⟩
 refine I.write (x:=a) (e:=dx) (by rw[e];exact True.intro) (.inr ho) (fun b q hb z=>(sb.2 b hb).trans z) hd ?_
 refine⟨by rw[aaF O.ne];exact ho,?_,O.ne,O'.obj,_,O'.ns,fun g=>?_,fun g hg=>?_⟩
 ·have:=aiT f y fs;omega
 ·show RelO ((aaT f y fs).lookup g) (if g=f then some u else mA g)
  rw[aaE]
  by_cases q:g=f
  ·rw[if_pos q,if_pos q];exact ry
  ·rw[if_neg q,if_neg q];exact r g
 ·by_cases q:g=f
  ·rw[q];exact (ah0 f y fs).1
  ·refine (ah0 f y fs).2 g (wi g fun z=>hg ?_)
   show (if g=f then some u else mA g)=none
   rw[if_neg q];exact z
theorem Inv.made(I:Inv X pins σ H s):Inv X pins σ (upd (upd H s.heap.objs.size (.own (s.heap.objs.size+1))) (s.heap.objs.size+1) (.ins C s.heap.objs.size []))
  {s with heap:=(s.heap.push PySem.W.emptyDict).push (PySem.W.instObj C s.heap.objs.size)}:=by
 have e1:(s.heap.push PySem.W.emptyDict).get? s.heap.objs.size=some PySem.W.emptyDict:=bK s.heap rfl
 have e2:((s.heap.push PySem.W.emptyDict).push (PySem.W.instObj C s.heap.objs.size)).get? (s.heap.objs.size+1)=some (PySem.W.instObj C s.heap.objs.size):=by
  have:=bK (s.heap.push PySem.W.emptyDict) (o:=PySem.W.instObj C s.heap.objs.size) rfl
  rwa [Heap.size_push] at this
 have e3:(s.heap.push PySem.W.emptyDict).Ns s.heap.objs.size (fun _=>none):=⟨PySem.W.emptyDict,#[],_,e1,rfl,(fun e he=>absurd he (by simp)),fun _=>rfl⟩
 have I1:=I.laid (a:=s.heap.objs.size) (o:=.own (s.heap.objs.size+1)) (h':=s.heap.push PySem.W.emptyDict) (t':=s.toks) (fun b u q=>aZ _ q) (aQ _) ⟨_,e1⟩
 refine I1.laid (a:=s.heap.objs.size+1) (o:=.ins C s.heap.objs.size []) (t':=s.toks) (fun b u q=>aZ _ q) (Nat.le_of_eq (Heap.size_push _ _)) ?_
 have ne:s.heap.objs.size≠s.heap.objs.size+1:=aX (Nat.lt_succ_self _)
 refine⟨by rw[aaF ne,aaA],bO _,ne,e2,fun _=>none,(Heap.Ns1.of_empty e3).at fun o q=>aZ _ q,fun _=>True.intro,fun y hy=>absurd rfl hy⟩
theorem aB6{prog:Program}{w:World}{env:Env}{e:Expr}{f:Str}{pos:Pos}{s:Shared}{Q:Value->Shared->Prop}(hb:attributeBase e f env (eval e env)=eval e env)
  (h:wpAny (model prog w) A (eval e env) (fun o s₁=>wpAny (model prog w) A (getAttr o f true) Q E s₁) E s):wpAny (model prog w) A (eval (.Attribute e f pos) env) Q E s:=
 Attribute_any_ h (by rw[arm_eval_Attribute,hb])
end
noncomputable def aFC(K:FG)(ta:TE)(f:Str):TE:=fun σ H Q=>ta σ H fun x H1=>∃a C dx fs v,x=.ref a/\H1 a=some (.ins C dx fs)/\Cls K C/\NoAttr K C f/\fs.lookup f=some v/\Q v H1
noncomputable def aOK(K:FG)(ta tv:TE)(f:Str):TS:=fun D σ H=>tv σ H fun y H1=>ta σ H1 fun x H2=>∃a C dx fs,x=.ref a/\H2 a=some (.ins C dx fs)/\Cls K C/\NoAttr K C f/\fs.length<1000/\
 D.nx σ (upd H2 a (.ins C dx (aaT f y fs)))
section
variable{X:Cx}{o e value:Expr}{f:Str}{pos pos' tpos:Pos}{ta tv:TE}
theorem aFN(he:PE X e ta)(hb:attributeBase e f X.env (eval e X.env)=eval e X.env):PE X (.Attribute e f pos) (aFC X.K ta f):=by
 intro pins s σ H Q I h
 refine aB6 hb (thn (he pins s σ H _ I h) fun u s1 ⟨x,H1,I1,rx,a,C,dx,fs,v,ex,ea,c,n,l,q⟩=>?_)
 subst ex
 obtain rfl:u=Value.ref a:=rx
 exact as2 I1 ea c n l fun u' s2 I2 ru=>⟨v,H1,I2,ru,q⟩
theorem aE2(ha:PE X o ta)(hv:PE X value tv)(hs:swapsWith value (some (.Attribute o f pos')) pos.line X.env=pure false):PS X (.Assign [.Attribute o f pos'] value pos) (aOK X.K ta tv f):=by
 intro pins s σ H D I h
 refine plainObj_wpAny_Assign_Attribute (thn (hv pins s σ H _ I h) fun u s1 ⟨y,H1,I1,ry,q⟩=>thn (ha pins s1 σ H1 _ I1 q) fun ov s2 ⟨x,H2,I2,rx,a,C,dx,fs,ex,ea,c,n,l,q2⟩=>?_) hs
 subst ex
 obtain rfl:ov=Value.ref a:=rx
 exact atU I2 ea c n l ry fun s3 I3=>⟨σ,_,I3,q2⟩
end
section
variable{X:Cx}{pins:List (Addr×Obj)}{σ:St}{H:Hp}{s:Shared}{A:Around}{E:Value->Shared->Prop}{Q:Value->Shared->Prop}{c:Value}{b:Bool}
inductive TyOf (K:FG) (H:Hp):V->Value->Prop where
 |non:TyOf K H .non (.type "NoneType")
 |bl (x:Bool):TyOf K H (.bl x) (.type "bool")
 |int (i:Int):TyOf K H (.int i) (.type "int")
 |str (x:Str):TyOf K H (.str x) (.type "str")
 |flt (x:UInt64):TyOf K H (.flt x) (.type "float")
 |lst {a:Addr} {xs:List V} (e:H a=some (.lst xs)):TyOf K H (.ref a) (.type "list")
 |frz {a:Addr} {o:Obj} {xs:List V} (e:H a=some (.frz o (.lst xs))):TyOf K H (.ref a) (.type "list")
 |tup {a:Addr} {xs:List V} (e:H a=some (.tup xs)):TyOf K H (.ref a) (.type "tuple")
 |dK {a:Addr} {kvs:List (Key×V)} (e:H a=some (.dK kvs)):TyOf K H (.ref a) (.type "dict")
 |dT {a:Addr} {kvs:List (List Key×V)} (e:H a=some (.dT kvs)):TyOf K H (.ref a) (.type "dict")
 |ins {a C dx:Addr} {fs:List (Str×V)} (e:H a=some (.ins C dx fs)) (cl:Cls K C) (ha:PySem.W.findIn K (.ref C) "__class__"=some (some (.builtin "object.__class__")))
   (hn:PySem.W.specialIn K (.builtin "object.__class__") "__get__"=some (some (.builtin "getset_descriptor.__get__"))) (htk:PySem.W.takesIn K (.builtin "object.__class__")=some true)
   (hm:PySem.W.mroIn K C (.type "object")=some true):TyOf K H (.ref a) (.ref C)
end
structure Room(k:Nat)(A:Around):Prop where
 hd:A.handled=none
 dp:A.depth+3*k+5<recursionLimit
 un:A.units+16*k+200<cLine
theorem Room.mono{j k:Nat}{A:Around}(r:Room k A)(h:j<=k):Room j A:=⟨r.hd,by have:=r.dp;omega,by have:=r.un;omega⟩
theorem Room.deeper{k:Nat}{A:Around}(r:Room (k+1) A)(env:Env):Room k (A.deeper env):=
 ⟨r.hd,by have:=r.dp;show A.depth+1+3*k+5<_;omega,by have:=r.un;show A.units+3+16*k+200<_;omega⟩
theorem at4{A:Around}{C:Addr}{us:List Value}{kw:List (Str×Value)}:(A.under (.builtin "type.__call__" ⟨.ref C::us,kw⟩)).depth=A.depth+1:=by
 first | rfl | simp[Around.under,Code.weight,Code.isCreation,Code.isGuard,Code.isCaller,Code.frames,Code.isFrame,guardIds]
theorem as4{A:Around}{C:Addr}{us:List Value}{kw:List (Str×Value)}:(A.under (.builtin "type.__call__" ⟨.ref C::us,kw⟩)).units=A.units+1:=by
 first | rfl | simp[Around.under,Code.cUnits,Code.frames,Code.isFrame]
theorem Room.make{k:Nat}{A:Around}(r:Room (k+1) A)(C:Addr)(us:List Value)(kw:List (Str×Value)):Room k (A.under (.builtin "type.__call__" ⟨.ref C::us,kw⟩)):=
 ⟨r.hd,by have:=r.dp;rw[at4];omega,by have:=r.un;rw[as4];omega⟩
theorem Room.depth{k:Nat}{A:Around}(r:Room k A):A.depth<recursionLimit:=by have:=r.dp;omega
theorem Room.units{k:Nat}{A:Around}(r:Room k A):A.units+64<cLine:=by have:=r.un;omega
noncomputable def agB:TA:=fun _ H Q=>Q [] H
noncomputable def af1(ta:TE)(tr:TA):TA:=fun σ H Q=>ta σ H fun x H1=>tr σ H1 fun xs H2=>Q (x::xs) H2
section
variable{X:Cx}{e:Expr}{es:List Expr}{te:TE}{t:TA}{pos:Pos}
theorem aeT:PA X [] agB:=fun _ _ _ _ H Q I h=>Calls.spliced_nil ⟨[],H,I,.nil,h⟩
theorem ac4(ha:PE X e te)(hr:PA X es t)(hs:starEach (e::es) X.env=(false,eval e X.env)::starEach es X.env:=by rfl):PA X (e::es) (af1 te t):=by
 intro pos pins s σ H Q I h
 rw[hs]
 show wpAny _ _ (spliced ((false,eval e X.env)::backTo pos (starEach es X.env))) _ _ s
 refine Calls.spliced_cons (thn (ha pins s σ H _ I h) fun u s1 ⟨x,H1,I1,r1,q1⟩=>?_)
 exact thn (hr pos pins s1 σ H1 _ I1 q1) fun us s2 ⟨xs,H2,I2,r2,q2⟩=>⟨x::xs,H2,I2,.cons r1 r2,q2⟩
noncomputable def aQI(t:TA):TE:=fun σ H Q=>t σ H fun xs H1=>xs.length<=sizeLine/\∀p,H1 p=none->Q (.ref p) (upd H1 p (.tup xs))
noncomputable def aOC(t:TA):TE:=fun σ H Q=>t σ H fun xs H1=>xs.length<=sizeLine/\∀p,H1 p=none->Q (.ref p) (upd H1 p (.lst xs))
theorem aFY{x1}(h:PA X es t):PE X (.Tuple es x1 pos) (aQI t):=by
 intro pins s σ H Q I hq
 refine wpAny_Tuple_spliced (thn (h pos pins s σ H _ I hq) fun us s1 ⟨xs,H1,I1,r,z,q⟩=>⟨by rw[←r.length];exact z,?_⟩)
 have hf:H1 s1.heap.objs.size=none:=I1.hok.fresh (aQ _)
 refine⟨.ref s1.heap.objs.size,upd H1 s1.heap.objs.size (.tup xs),I1.laid (t':=s1.toks) (fun b u e=>aZ _ e) (aQ _) ?_,rfl,q _ hf⟩
 exact⟨z,us,r,⟨_,bK _ rfl,rfl,_,rfl⟩⟩
theorem aFA(h:PA X es t):PE X (.List es pos) (aOC t):=by
 intro pins s σ H Q I hq
 refine wpAny_List_spliced (thn (h pos pins s σ H _ I hq) fun us s1 ⟨xs,H1,I1,r,z,q⟩=>⟨by rw[←r.length];exact z,?_⟩)
 have hf:H1 s1.heap.objs.size=none:=I1.hok.fresh (aQ _)
 refine⟨.ref s1.heap.objs.size,upd H1 s1.heap.objs.size (.lst xs),I1.laid (t':=s1.toks) (fun b u e=>aZ _ e) (aQ _) ?_,rfl,q _ hf⟩
 exact⟨z,us,0,r,bK _ rfl⟩
end
noncomputable abbrev Sp:=List V->Hp->VK->XK->Prop
noncomputable abbrev CXT:=List Env->Hp->Shared->XK->Value->Shared->Prop
structure Env0(P:Program)(w:World)(K:FG)(mg:Str->Option Value)(base:Heap)(A:Around)(outer:List Env)(s:Shared)(H:Hp):Prop where
 frames:A.frames=some outer
 mod:Mod K mg base
 bs:∀b o,base.get? b=some o->s.heap.get? b=some o/\H b=none
 bsz:base.objs.size<=s.heap.objs.size
 funs:s.heap.FunFrames base outer
 frf:∀b∈frs outer,H b=none
 hok:HOk P w H s.heap
 bare:AllBare s.gens
noncomputable def CE(outer:List Env)(P:Program)(w:World)(H:Hp)(s:Shared)(Q:VK)(u:Value)(s':Shared):Prop:=
 ∃v H',s'.os=s.os/\AllBare s'.gens/\Un (frs outer) [] H H' s.heap s'.heap/\HOk P w H' s'.heap/\RelV v u/\Q v H'
noncomputable def CR(CX:CXT)(outer:List Env)(P:Program)(w:World)(H:Hp)(s:Shared)(Q:VK)(E:XK)(r:Result)(s':Shared):Prop:=
 match r with
 |.ok (.ret u)=>CE outer P w H s Q u s'
 |.ok _=>False
 |.error e=>CX outer H s E e s'
structure FnOk(P:Program)(w:World)(K:FG)(mg:Str->Option Value)(base:Heap)(CX:CXT)(k:Nat)(f:Addr)(fd:FuncData)(ps:List Str)(sp:Sp):Prop where
 len:∀vs H Q E,sp vs H Q E->vs.length=ps.length
 run:∀(A:Around) (outer:List Env) (s:Shared) (H:Hp) (args:Args) (us:List Value) (vs:List V) (Q:VK) (E:XK),Room k A->Env0 P w K mg base A outer s H->BindsTo s fd args (ps.zip us)->Vals vs us->sp vs H Q E->
  codeAny (model P w) A (.call (.ref f) args) (CR CX outer P w H s Q E) s
theorem Env0.make{P:Program}{w:World}{K:FG}{mg:Str->Option Value}{base:Heap}{A:Around}{outer:List Env}{s:Shared}{H:Hp}(e:Env0 P w K mg base A outer s H)(C:Addr)(us:List Value)(kw:List (Str×Value)):
  Env0 P w K mg base (A.under (.builtin "type.__call__" ⟨.ref C::us,kw⟩)) outer s H:=⟨by first | exact e.frames | (simpa [Around.under,Code.envs,Code.isFrame,pushEnvs] using e.frames),e.mod,e.bs,e.bsz,e.funs,e.frf,e.hok,e.bare⟩
section
variable{X:Cx}{pins:List (Addr×Obj)}{σ:St}{H:Hp}{s s':Shared}
theorem Inv.env0(I:Inv X pins σ H s):Env0 X.prog X.w X.K X.mg X.base X.A X.stack s H:=
 ⟨I.ok.frames,I.ok.mod,I.bs,bE I.ok.bsz I.sz,I.stack,I.stkFree,I.hok,I.bare⟩
theorem Inv.after{Q:VK}{u:Value}(I:Inv X pins σ H s)(h:CE X.stack X.prog X.w H s Q u s'):EP X pins σ Q u s':=by
 obtain⟨v,H',os,bare,un,hok,r,q⟩:=h
 obtain⟨hh,g,d,t,os'⟩:=s'
 obtain rfl:os'=s.os:=os
 exact⟨v,H',I.call (h':=hh) (g':=g) (d':=d) (t':=t) (ch:=[]) un hok bare (fun b z=>absurd z (by simp)),r,q⟩
end
noncomputable def anL(sp:Sp)(dvs:List V)(E:XK)(t:TA):TE:=fun σ H Q=>t σ H fun vs H1=>sp (vs++dvs) H1 Q E
noncomputable def aqZ(C:Addr)(m:Str)(sp:Sp)(dvs:List V)(E:XK)(ta:TE)(t:TA):TE:=fun σ H Q=>ta σ H fun x H1=>∃a dx fs,x=.ref a/\H1 a=some (.ins C dx fs)/\fs.lookup m=none/\
 t σ H1 fun vs H2=>sp (x::(vs++dvs)) H2 Q E
noncomputable def at8(C:Addr)(sp:Sp)(dvs:List V)(E:XK)(t:TA):TE:=fun σ H Q=>t σ H fun vs H1=>∀x dx,H1 x=none->H1 dx=none->dx≠x->
 sp (.ref x::(vs++dvs)) (upd (upd H1 dx (.own x)) x (.ins C dx [])) (fun v H2=>v=.non/\Q (.ref x) H2) E
noncomputable def Binds(K:FG)(fd:FuncData)(ps:List Str)(ds:List Value):Prop:=
 ∀(s:Shared) (us:List Value),K.In s.heap->(us++ds).length=ps.length->BindsTo s fd ⟨us,[]⟩ (ps.zip (us++ds))
theorem Binds.all{K:FG}{fd:FuncData}{ps:List Str}(h:∀us:List Value,us.length=ps.length->bindArgs fd ⟨us,[]⟩=pure (ps.zip us)):Binds K fd ps []:=fun s us _ hl=>by
 rw[cJ] at hl ⊢
 exact .of_eq (h us hl)
noncomputable def adR(CX:CXT)(X:Cx)(E:XK):Prop:=∀(pins:List (Addr×Obj)) (σ:St) (H:Hp) (s:Shared) (e:Value) (s':Shared),Inv X pins σ H s->CX X.stack H s E e s'->X.xe e s'
section
variable{X:Cx}{CX:CXT}{k:Nat}{f C:Addr}{fd:FuncData}{ps:List Str}{sp:Sp}{dvs:List V}{ds:List Value}{E:XK}{x m:Str}{p pos apos:Pos}{e o:Expr}{es:List Expr}{ta:TE}{t:TA}
theorem ajX{pins:List (Addr×Obj)}{σ:St}{H:Hp}{s:Shared}{Q:VK}{us:List Value}{vs:List V}(F:FnOk X.prog X.w X.K X.mg X.base CX k f fd ps sp)(hr:Room k X.A)(hb:Binds X.K fd ps ds)(hd:Vals dvs ds)(hx:adR CX X E)
  (I:Inv X pins σ H s) (r:Vals vs us) (h:sp (vs++dvs) H Q E):wpAny (model X.prog X.w) X.A (call (.ref f) us) (EP X pins σ Q) X.xe s:=by
 have r2:Vals (vs++dvs) (us++ds):=r.append hd
 have hl:(us++ds).length=ps.length:=by rw[←r2.length];exact F.len _ _ _ _ h
 refine wpAny_call (codeAny_mono (F.run X.A X.stack s H ⟨us,[]⟩ (us++ds) (vs++dvs) Q E hr I.env0 (hb s us I.kIn hl) r2 h) fun r s' hq=>?_)
 cases r with
 |error e=>exact hx pins σ H s e s' I hq
 |ok fl=>
  cases fl with
  |ret u=>exact I.after hq
  |next=>exact False.elim hq
  |brk=>exact False.elim hq
  |cont=>exact False.elim hq
theorem aBF(F:FnOk X.prog X.w X.K X.mg X.base CX k f fd ps sp)(hr:Room k X.A)(hg:Gl X x)(hm:X.mg x=some (.ref f))(hk:PySem.W.keepIn X.K (.ref f)=true)(hb:Binds X.K fd ps ds)(hd:Vals dvs ds)(hx:adR CX X E)
  (ha:PA X (e::es) t) (hdb:(x==("__debug__":Str))=false:=by decide) (he:starEach (e::es) X.env=(false,eval e X.env)::starEach es X.env:=by rfl) (hpl:(backTo pos (starEach es X.env)).any (·.1)=false:=by rfl):
  PE X (.Call (.Name x p) (e::es) [] pos) (anL sp dvs E t):=by
 intro pins s σ H Q I h
 refine dW (adJ I hg hm ?_ hdb)
 refine PySem.W.callWith_K (h₀:=X.base) I.ok.mod.kin hk (thn (ha pos pins s σ H _ I h) fun us s1 ⟨vs,H1,I1,r,q⟩=>⟨I1.kIn,?_⟩) he hpl
 exact ajX F hr hb hd hx I1 r q
theorem azQ(F:FnOk X.prog X.w X.K X.mg X.base CX k f fd ps sp)(hr:Room k X.A)(hg:Gl X x)(hm:X.mg x=some (.ref f))(hk:PySem.W.keepIn X.K (.ref f)=true)(hb:Binds X.K fd ps ds)(hd:Vals dvs ds)(hx:adR CX X E)
  (hdb:(x==("__debug__":Str))=false:=by decide):PE X (.Call (.Name x p) [] [] pos) (anL sp dvs E agB):=by
 intro pins s σ H Q I h
 refine dW (adJ I hg hm ?_ hdb)
 exact PySem.W.callWith_K0 I.kIn hk (ajX (us:=[]) F hr hb hd hx I .nil h)
theorem aCC{pl:Sem Bool}(he:PE X o ta)(c:Cls X.K C)(hm:Meth X.K C m f)(F:FnOk X.prog X.w X.K X.mg X.base CX k f fd ps sp)(hr:Room k X.A)(hb:Binds X.K fd ps ds)(hd:Vals dvs ds)(hx:adR CX X E)(ha:PA X (e::es) t)
  (hst:starEach (e::es) X.env=(false,eval e X.env)::starEach es X.env:=by rfl) (hpl:(backTo pos (starEach es X.env)).any (·.1)=false:=by rfl)
  (ht:eval (.Call (.Attribute o m apos) (e::es) [] pos) X.env=(do
   let ov ←eval o X.env
   standAt apos.atName
   let (f,first) ←holding [ov] (getMethod ov m pl)
   callWith pos f first (backTo pos (starEach (e::es) X.env)) (backToKw pos (keywordEach [] X.env))):=by rfl):
  PE X (.Call (.Attribute o m apos) (e::es) [] pos) (aqZ C m sp dvs E ta t):=by
 intro pins s σ H Q I h
 refine PySem.W.methodCall_KW (pl:=pl) (thn (he pins s σ H _ I h) fun u s1 ⟨x,H1,I1,rx,a,dx,fs,ex,ea,l,q⟩=>?_) ht
 subst ex
 obtain rfl:u=Value.ref a:=rx
 refine akD I1 ea c hm l ?_
 refine PySem.W.callWith_K (first:=[.ref a]) (h₀:=X.base) I.ok.mod.kin hm.kp (thn (ha pos pins s1 σ H1 _ I1 q) fun us s2 ⟨vs,H2,I2,r,q2⟩=>⟨I2.kIn,?_⟩) hst hpl
 exact ajX (us:=.ref a::us) (vs:=.ref a::vs) F hr hb hd hx I2 (.cons rfl r) q2
theorem ax3{pl:Sem Bool}(he:PE X o ta)(c:Cls X.K C)(hm:Meth X.K C m f)(F:FnOk X.prog X.w X.K X.mg X.base CX k f fd ps sp)(hr:Room k X.A)(hb:Binds X.K fd ps ds)(hd:Vals dvs ds)(hx:adR CX X E)
  (ht:eval (.Call (.Attribute o m apos) [] [] pos) X.env=(do
   let ov ←eval o X.env
   standAt apos.atName
   let (f,first) ←holding [ov] (getMethod ov m pl)
   callWith pos f first (backTo pos (starEach [] X.env)) (backToKw pos (keywordEach [] X.env))):=by rfl):
  PE X (.Call (.Attribute o m apos) [] [] pos) (aqZ C m sp dvs E ta agB):=by
 intro pins s σ H Q I h
 refine PySem.W.methodCall_KW (pl:=pl) (thn (he pins s σ H _ I h) fun u s1 ⟨x,H1,I1,rx,a,dx,fs,ex,ea,l,q⟩=>?_) ht
 subst ex
 obtain rfl:u=Value.ref a:=rx
 refine akD I1 ea c hm l ?_
 exact PySem.W.callWith_K0 (first:=[.ref a]) I1.kIn hm.kp (ajX (us:=[.ref a]) (vs:=[.ref a]) F hr hb hd hx I1 (.cons rfl .nil) q)
structure Mk(K:FG)(C f:Addr):Prop where
 makes:PySem.W.makesIn K C=true
 init:PySem.W.findIn K (.ref C) "__init__"=some (some (.ref f))
 fn:PySem.W.isFn K (.ref f)=true
 kp:PySem.W.keepIn K (.ref C)=true
theorem arM{pins:List (Addr×Obj)}{σ:St}{H:Hp}{s:Shared}{Q:VK}{us:List Value}{vs:List V}(M:Mk X.K C f)(F:FnOk X.prog X.w X.K X.mg X.base CX k f fd ps sp)(hr:Room (k+1) X.A)(hb:Binds X.K fd ps ds)(hd:Vals dvs ds)
  (hx:adR CX X E) (I:Inv X pins σ H s) (r:Vals vs us)
  (h:∀x dx,H x=none->H dx=none->dx≠x->sp (.ref x::(vs++dvs)) (upd (upd H dx (.own x)) x (.ins C dx [])) (fun v H2=>v=.non/\Q (.ref x) H2) E):
  wpAny (model X.prog X.w) X.A (call (.ref C) us) (EP X pins σ Q) X.xe s:=by
 have hq:=h (s.heap.objs.size+1) s.heap.objs.size (I.hok.fresh (Nat.le_succ _)) (I.hok.fresh (aQ _)) (aX (Nat.lt_succ_self _))
 have I2:=Inv.made (C:=C) I
 have r2:Vals (V.ref (s.heap.objs.size+1)::(vs++dvs)) (Value.ref (s.heap.objs.size+1)::(us++ds)):=.cons rfl (r.append hd)
 have hl:(Value.ref (s.heap.objs.size+1)::us++ds).length=ps.length:=by
  have e:=r2.length
  rw[F.len _ _ _ _ hq] at e
  exact e.symm
 refine wpAny_call (ay5 (f:=f) I.kIn M.makes M.init (beq_iff_eq.mp M.fn) (codeAny_mono (F.run _ X.stack _ _ ⟨Value.ref (s.heap.objs.size+1)::us,[]⟩ (Value.ref (s.heap.objs.size+1)::(us++ds)) _ _ E (hr.make C us [])
  (I2.env0.make C us []) (hb _ (Value.ref (s.heap.objs.size+1)::us) I2.kIn hl) r2 hq) fun r s' hq'=>?_))
 cases r with
 |error e=>exact hx pins σ _ _ e s' I2 hq'
 |ok fl=>
  cases fl with
  |ret u=>
   obtain⟨v,H',I3,rv,ev,q3⟩:=I2.after hq'
   subst ev
   exact⟨rv,⟨V.ref (s.heap.objs.size+1),H',I3,rfl,q3⟩⟩
  |next=>exact False.elim hq'
  |brk=>exact False.elim hq'
  |cont=>exact False.elim hq'
theorem aCA(M:Mk X.K C f)(F:FnOk X.prog X.w X.K X.mg X.base CX k f fd ps sp)(hr:Room (k+1) X.A)(hg:Gl X x)(hm:X.mg x=some (.ref C))(hb:Binds X.K fd ps ds)(hd:Vals dvs ds)(hx:adR CX X E)
  (ha:PA X (e::es) t) (hdb:(x==("__debug__":Str))=false:=by decide) (he:starEach (e::es) X.env=(false,eval e X.env)::starEach es X.env:=by rfl) (hpl:(backTo pos (starEach es X.env)).any (·.1)=false:=by rfl):
  PE X (.Call (.Name x p) (e::es) [] pos) (at8 C sp dvs E t):=by
 intro pins s σ H Q I h
 refine dW (adJ I hg hm ?_ hdb)
 refine PySem.W.callWith_K (h₀:=X.base) I.ok.mod.kin M.kp (thn (ha pos pins s σ H _ I h) fun us s1 ⟨vs,H1,I1,r,q⟩=>⟨I1.kIn,?_⟩) he hpl
 exact arM M F hr hb hd hx I1 r q
theorem axL(M:Mk X.K C f)(F:FnOk X.prog X.w X.K X.mg X.base CX k f fd ps sp)(hr:Room (k+1) X.A)(hg:Gl X x)(hm:X.mg x=some (.ref C))(hb:Binds X.K fd ps ds)(hd:Vals dvs ds)(hx:adR CX X E)
  (hdb:(x==("__debug__":Str))=false:=by decide):PE X (.Call (.Name x p) [] [] pos) (at8 C sp dvs E agB):=by
 intro pins s σ H Q I h
 refine dW (adJ I hg hm ?_ hdb)
 exact PySem.W.callWith_K0 I.kIn M.kp (arM (us:=[]) M F hr hb hd hx I .nil h)
end
section
variable{X:Cx}{CX:CXT}{k:Nat}{f C:Addr}{fd:FuncData}{ps ks:List Str}{sp:Sp}{E:XK}{x m:Str}{p pos apos kpos:Pos}{e o:Expr}{es:List Expr}{kws:List Keyword}{te ta:TE}{t tk:TA}{nm:Option Str}
variable{g:List Value->List Value->List Value}{gV:List V->List V->List V}
end
structure FnScope(N P:List Str)(sc:Scope):Prop where
 kind:sc.kind=.function
 co:sc.isCoroutine=false
 gen:sc.isGenerator=false
 nd:N.Nodup
 pre:N.take P.length=P
 par:∀x∈P,sc.names.lookup x=some .local∨sc.names.lookup x=some .cell
 nofree:∀y∈sc.names,y.2≠ .free
theorem amY{kindOf:Str->Option NameKind}{x:Str}:∀{binds:List (Str×Value)} {m:Str->Option Value},(∀v,(x,v)∉binds)->bindL kindOf binds m x=m x
 |[],_,_=>rfl
 |(n,v)::r,m,h=>by
  unfold bindL
  rw[amY fun w hw=>h w (bY _ hw)]
  split
  ·have:x≠n:=by rintro rfl;exact h v bX
   simp[this]
  ·rfl
theorem amX{kindOf:Str->Option NameKind}{x:Str}:∀{binds:List (Str×Value)} {m:Str->Option Value},(∀v,(x,v)∉binds)->bindC kindOf binds m x=m x
 |[],_,_=>rfl
 |(n,v)::r,m,h=>by
  unfold bindC
  rw[amX fun w hw=>h w (bY _ hw)]
  split
  ·rfl
  ·have:x≠n:=by rintro rfl;exact h v bX
   simp[this]
theorem anZ{kindOf:Str->Option NameKind}{x:Str}{v:Value}:∀{P:List Str} {vs:List Value} {i:Nat} {m:Str->Option Value},P.Nodup->P[i]? =some x->vs[i]? =some v->kindOf x=some .local->
  bindL kindOf (P.zip vs) m x=some v
 |[],_,_,_,_,h,_,_=>by simp at h
 |_::_,[],_,_,_,_,h,_=>by simp at h
 |p::P,w::vs,0,m,nd,h1,h2,hk=>by
  simp at h1 h2;subst h1;subst h2
  show bindL kindOf ((p,w)::P.zip vs) m p=_
  unfold bindL
  rw[amY fun v hv=>(List.nodup_cons.mp nd).1 (List.of_mem_zip hv).1,if_pos hk]
  simp
 |p::P,w::vs,i+1,m,nd,h1,h2,hk=>by
  show bindL kindOf ((p,w)::P.zip vs) m x=_
  unfold bindL
  exact anZ (i:=i) (List.nodup_cons.mp nd).2 (by simpa using h1) (by simpa using h2) hk
theorem anY{kindOf:Str->Option NameKind}{x:Str}{v:Value}:∀{P:List Str} {vs:List Value} {i:Nat} {m:Str->Option Value},P.Nodup->P[i]? =some x->vs[i]? =some v->kindOf x≠some .local->
  bindC kindOf (P.zip vs) m x=some v
 |[],_,_,_,_,h,_,_=>by simp at h
 |_::_,[],_,_,_,_,h,_=>by simp at h
 |p::P,w::vs,0,m,nd,h1,h2,hk=>by
  simp at h1 h2;subst h1;subst h2
  show bindC kindOf ((p,w)::P.zip vs) m p=_
  unfold bindC
  rw[amX fun v hv=>(List.nodup_cons.mp nd).1 (List.of_mem_zip hv).1,if_neg hk]
  simp
 |p::P,w::vs,i+1,m,nd,h1,h2,hk=>by
  show bindC kindOf ((p,w)::P.zip vs) m x=_
  unfold bindC
  exact anY (i:=i) (List.nodup_cons.mp nd).2 (by simpa using h1) (by simpa using h2) hk
noncomputable def start(N:List Str)(vs:List V):St:=vs.map some++List.replicate (N.length-vs.length) none
noncomputable def aiX(CX:CXT)(P:Program)(w:World)(K:FG)(mg:Str->Option Value)(base:Heap)(N:List Str)(qual:Str)(scope:Scope)(f:Addr)(cd:Value)(A:Around)(outer:List Env)(s:Shared)(H:Hp)(E:XK):Cx where
 prog:=P
 w:=w
 K:=K
 mg:=mg
 base:=base
 A:=A.deeper (envOfC qual scope s.heap.objs.size f cd)
 N:=N
 s₀:=s
 H₀:=H
 env:=envOfC qual scope s.heap.objs.size f cd
 outer:=outer
 stack:=envOfC qual scope s.heap.objs.size f cd::outer
 ex:=[]
 calm:=true
 fn:=fun _=>true
 pn:=[]
 xe:=fun e s'=>wpAny (model P w) (A.deeper (envOfC qual scope s.heap.objs.size f cd)) (leaving (envOfC qual scope s.heap.objs.size f cd) e) (fun _ s''=>CX outer H s E e s'') (fun e' s''=>CX outer H s E e' s'') s'
theorem arR{sc:Scope}{n:Nat}{x:Str}(h:sc.names.lookup x=some .cell):∃c,(cellsFrom n sc.names []).lookup x=some c:=by
 have q:=PySem.W.cellsFrom_some sc.names n [] (.inl h)
 exact cY.mp q
theorem av5{CX:CXT}{P:Program}{w:World}{K:FG}{mg:Str->Option Value}{base:Heap}{N ps:List Str}{qual:Str}{scope:Scope}{f:Addr}{cd:Value}{A:Around}{outer:List Env}{s s1:Shared}{H:Hp}{E:XK}{us:List Value}{vs:List V}
  (S:FnScope N ps scope) (hd:A.handled=none) (e0:Env0 P w K mg base A outer s H) (hl:vs.length=ps.length) (r:Vals vs us)
  (x:InCallC s s.heap.objs.size (bindL (envOfC qual scope s.heap.objs.size f cd).kindOf (ps.zip us) fun _=>none) (cellsFrom (s.heap.objs.size+1) scope.names []) (bindC (envOfC qual scope s.heap.objs.size f cd).kindOf (ps.zip us) fun _=>none) s1):
  Inv (aiX CX P w K mg base N qual scope f cd A outer s H E) [] (start N vs) H s1:=by
 have hpl:ps.length<=N.length:=by have:=congrArg List.length S.pre;rw[cL] at this;omega
 obtain⟨h1,tk,rfl,hk⟩:=x.done
 have noA:∀b:Addr,b∉(aiX CX P w K mg base N qual scope f cd A outer s H E).ex:=fun b z=>absurd (show b∈([]:List Addr) from z) (by simp)
 refine⟨⟨e0.mod,S.kind,rfl,rfl,aQ _,fun y z c h1 h2=>?_,fun y hy=>?_,fun y c _ h=>?_,fun _=>hd,Around.frames_deeper e0.frames,.inr ⟨rfl,rfl⟩,fun b z=>absurd z (noA b),e0.bs,e0.bsz,fun b _ _=>noA b,fun b z=>absurd z (noA b),e0.funs,e0.frf⟩,
  rfl,e0.bare,Un.kept hk,⟨_,x.toInCall.ns,fun i y v h1 h2 h3=>?_⟩,fun y c h=>⟨_,x.cell y c h⟩,e0.hok.fresh (aQ _),fun y c h=>?_,fun p hp=>absurd (show p∈([]:List (Addr×Obj)) from hp) (by simp),e0.hok.kept hk,?_⟩
 ·exact name_of_addr x.apart (PySem.mem_of_lookup h1) (PySem.mem_of_lookup h2)
 ·have hy:scope.names.lookup y=some .cell∨scope.names.lookup y=some .free:=hy
  rcases hy with hy | hy
  ·exact arR hy
  ·exact absurd rfl (S.nofree _ (PySem.mem_of_lookup hy))
 ·exact Nat.le_of_lt (x.above y c (PySem.mem_of_lookup h))
 ·have hi:i<vs.length:=by
   unfold start at h2
   by_cases hi:i<vs.length
   ·exact hi
   ·rw[List.getElem?_append_right (by simpa using hi)] at h2
    rw[List.getElem?_replicate] at h2
    split at h2<;>cases h2
  have ha:vs[i]? =some v:=by
   unfold start at h2
   rw[List.getElem?_append_left (by simpa using hi),bF] at h2
   cases e:vs[i]? with
   |none=>rw[e] at h2;cases h2
   |some a=>rw[e] at h2;cases h2;rfl
  obtain⟨u,hu,rv⟩:=r.get ha
  have hp:ps[i]? =some y:=by
   rw[←S.pre,List.getElem?_take_of_lt (by omega)];exact h1
  have ndP:ps.Nodup:=by rw[←S.pre];exact S.nd.sublist (List.take_sublist _ _)
  refine⟨u,rv,?_⟩
  rcases S.par y (bL hp) with k | k
  ·exact .inl ⟨k,anZ ndP hp hu k⟩
  ·obtain⟨c,e⟩:=arR (n:=s.heap.objs.size+1) k
   refine .inr ⟨.inl k,c,e,?_⟩
   have q:=x.cell y c e
   rw[anY ndP hp hu (by show scope.names.lookup y≠_;rw[k];decide)] at q
   exact q
 ·exact e0.hok.fresh (Nat.le_of_lt (x.above y c (PySem.mem_of_lookup h)))
 ·unfold start
  show _=N.length
  rw[aU,aR,cZ]
  omega
theorem ax9{CX:CXT}{P:Program}{w:World}{K:FG}{mg:Str->Option Value}{base:Heap}{k:Nat}{f:Addr}{name qual:Str}{params:Arguments}{body:List Stmt}{scope:Scope}{dV kV doc pm cdv ct oc:Value}{an od:Option Addr}
  {osl:Array (Option Value)} {N ps:List Str} {sp:Sp} (lk:K.lookup f=some ⟨oc,od,.func (PySem.W.fnOf name qual params body scope dV kV doc pm an cdv ct),osl⟩) (hcd:PySem.W.codeIn K cdv qual=true) (S:FnScope N ps scope)
  (len:∀vs H Q E,sp vs H Q E->vs.length=ps.length)
  (hbody:∀(A:Around) (outer:List Env) (s:Shared) (H:Hp) (vs:List V) (Q:VK) (E:XK),Room k (A.deeper (envOfC qual scope s.heap.objs.size f cdv))->sp vs H Q E->
   ∃t,PSs (aiX CX P w K mg base N qual scope f cdv A outer s H E) body t/\t {nx:=fun _ H'=>Q .non H',rt:=Q} (start N vs) H):
  FnOk P w K mg base CX (k+1) f (PySem.W.fnOf name qual params body scope dV kV doc pm an cdv ct) ps sp:=by
 refine⟨len,fun A outer s H args us vs Q E hr e0 hb r hsp=>?_⟩
 have hl:=len _ _ _ _ hsp
 have KX:K.In s.heap:=e0.mod.kin.keeps fun b o e=>(e0.bs b o e).1
 have lim:s.heap.NoLimit:=e0.mod.nolimit.keeps fun b o e=>(e0.bs b o e).1
 have hkind:∀y∈ps.zip us,scope.names.lookup y.1=some .local∨(scope.names.lookup y.1=some .cell/\((cellsFrom (s.heap.objs.size+1) scope.names []).lookup y.1).isSome=true):=fun ⟨n,v⟩ hy=>by
  rcases S.par n (List.of_mem_zip hy).1 with q | q
  ·exact .inl q
  ·exact .inr ⟨q,PySem.W.cellsFrom_some _ _ _ (.inl q)⟩
 refine codeAny_call_function hr.depth (KX _ _ lk) rfl S.co S.gen rfl (PySem.W.codeRec_of KX hcd) (hb _ _ _ _ ?_)
 refine wpAny_newFunctionEnv_cells S.kind hkind fun env he s1 x=>?_
 subst he
 refine⟨lim.keeps x.toInCall.keep,codeAny_func ?_⟩
 obtain⟨t,ht,hq⟩:=hbody A outer s H vs Q E (hr.deeper _) hsp
 have I:Inv (aiX CX P w K mg base N qual scope f cdv A outer s H E) [] (start N vs) H s1:=av5 S hr.hd e0 hl r x
 refine dM (ht [] s1 (start N vs) H _ I hq) (fun fl s' hs=>?_) fun e s' hs=>hs
 have fin:∀{σ':St} {H':Hp} {v:V} {u:Value},Inv (aiX CX P w K mg base N qual scope f cdv A outer s H E) [] σ' H' s'->RelV v u->Q v H'->CE outer P w H s Q u s':=
  fun {σ' H' v u} J rv q=>⟨v,H',J.os,J.bare,J.base,J.hok,rv,q⟩
 cases fl with
 |ret u=>
  obtain⟨v,σ',H',J,rv,q⟩:=hs
  exact fin J rv q
 |next=>
  obtain⟨σ',H',J,q⟩:=hs
  exact fin (v:=V.non) (u:=Value.none) J rfl q
 |brk=>
  obtain⟨_,_,_,q⟩:=hs
  exact False.elim q
 |cont=>
  obtain⟨_,_,_,q⟩:=hs
  exact False.elim q
section
variable{X:Cx}{x:Str}{p pos:Pos}{e:Expr}{es:List Expr}{t:TA}{id T:String}{r:List V->Hp->VK->Prop}
noncomputable def tCB(r:List V->Hp->VK->Prop)(t:TA):TE:=fun σ H Q=>t σ H fun vs H1=>r vs H1 Q
theorem azA(hc:aeK X (.builtin id) r)(hg:Gl X x)(hm:X.mg x=none)(hv:bootBuiltins x=some (.builtin id))(ha:PA X (e::es) t)(hn:x≠"__name__":=by decide)(hdb:(x==("__debug__":Str))=false:=by decide)
  (he:starEach (e::es) X.env=(false,eval e X.env)::starEach es X.env:=by rfl) (hpl:(backTo pos (starEach es X.env)).any (·.1)=false:=by rfl):PE X (.Call (.Name x p) (e::es) [] pos) (tCB r t):=by
 intro pins s σ H Q I h
 refine dW (ahS I hg hm hv ?_ hn hdb)
 exact PyProof.Rows.callWith_builtin1 (thn (ha pos pins s σ H _ I h) fun us s1 ⟨vs,H1,I1,r1,q1⟩=>hc pins s1 σ H1 vs us Q I1 r1 q1) he hpl
theorem awX(hc:aeK X (.type T) r)(hg:Gl X x)(hm:X.mg x=none)(hv:bootBuiltins x=some (.type T))(ha:PA X (e::es) t)(hn:x≠"__name__":=by decide)(hdb:(x==("__debug__":Str))=false:=by decide)
  (he:starEach (e::es) X.env=(false,eval e X.env)::starEach es X.env:=by rfl) (hpl:(backTo pos (starEach es X.env)).any (·.1)=false:=by rfl):PE X (.Call (.Name x p) (e::es) [] pos) (tCB r t):=by
 intro pins s σ H Q I h
 refine dW (ahS I hg hm hv ?_ hn hdb)
 exact PyProof.Rows.callWith_type1 (thn (ha pos pins s σ H _ I h) fun us s1 ⟨vs,H1,I1,r1,q1⟩=>hc pins s1 σ H1 vs us Q I1 r1 q1) he hpl
end
end L2
namespace HT
open PySem PyProof.Rows
section
open PySem.SeqAt
open PySem.AutoSeq1 (wpAny_loadPart')
open PySem.MeetsSeq PySem.MeetsSeq2 PySem.MeetsSeq3
end
section
variable{prog:Program}{w:World}{A:Around}{E:Value->Shared->Prop}{s:Shared}
noncomputable def sIx(n d:Nat):Option Int->Nat
 |none=>d
 |some v=>if v<0 then (v+(n:Int)).toNat else min v.toNat n
theorem sIx_nat(n d k:Nat):sIx n d (some (k:Int))=min k n:=by
 show (if (k:Int)<0 then ((k:Int)+(n:Int)).toNat else min (k:Int).toNat n)=min k n
 rw[if_neg (by omega),Int.toNat_natCast]
theorem sIx_le(n d:Nat)(hd:d<=n)(o:Option Int):sIx n d o<=n:=by
 cases o with
 |none=>exact hd
 |some v=>
  show (if v<0 then (v+(n:Int)).toNat else min v.toNat n)<=n
  by_cases hv:v<0
  ·rw[if_pos hv];omega
  ·rw[if_neg hv];exact Nat.min_le_right _ _
end
end HT
namespace L2
open PySem PySem.Spec PyProof.Rows
noncomputable abbrev TO:=St->Hp->(Option Int->Hp->Prop)->Prop
noncomputable def PO(X:Cx)(e:Option Expr)(t:TO):Prop:=
 ∀(pins:List (Addr×Obj)) (s:Shared) (σ:St) (H:Hp) (Q:Option Int->Hp->Prop),Inv X pins σ H s->t σ H Q->
  wpAny (model X.prog X.w) X.A (evalPart e X.env) (fun u s'=>∃o H',Inv X pins σ H' s'/\IsPart u o/\Q o H') X.xe s
noncomputable def avC:TO:=fun _ H Q=>Q none H
noncomputable def aCU(t:TE):TO:=fun σ H Q=>t σ H fun x H1=>∃i,x=.int i/\Q (some i) H1
section
variable{X:Cx}{e:Expr}{te:TE}{lo hi:Option Expr}{tl th:TO}{pos p2:Pos}
theorem aBP:PO X none avC:=by
 intro pins s σ H Q I h
 rw[evalPart_none]
 exact dX ⟨none,H,I,.none,h⟩
theorem aBC(h:PE X e te):PO X (some e) (aCU te):=by
 intro pins s σ H Q I hw
 rw[evalPart_some]
 refine thn (h pins s σ H _ I hw) fun u s1 ⟨x,H1,I1,r1,q1⟩=>?_
 obtain⟨i,rfl,q⟩:=q1
 obtain⟨t,rfl⟩:=r1
 exact⟨some i,H1,I1,.int i t,q⟩
noncomputable def SlR(X:Cx)(r:V->Option Int->Option Int->Hp->VK->Prop):Prop:=
 ∀(pins:List (Addr×Obj)) (s:Shared) (σ:St) (H:Hp) (x:V) (v vl vu:Value) (lo hi:Option Int) (sl:Addr) (Q:VK),Inv X pins σ H s->RelV x v->s.heap.IsSliceOf sl vl vu .none->IsPart vl lo->IsPart vu hi->r x lo hi H Q->
  ∃T id,typeLookup (.type T) "__getitem__"=pure (some (.builtin id))/\s.TypeIs v T/\wpAny (model X.prog X.w) X.A (getItem v (.ref sl)) (EP X pins σ Q) X.xe s
noncomputable def tSl(r:V->Option Int->Option Int->Hp->VK->Prop)(te:TE)(tl th:TO):TE:=fun σ H Q=>te σ H fun x H1=>tl σ H1 fun l H2=>th σ H2 fun u H3=>r x l u H3 Q
theorem ayC{r:V->Option Int->Option Int->Hp->VK->Prop}(hr:SlR X r)(he:PE X e te)(hl:PO X lo tl)(hu:PO X hi th):PE X (.Subscript e (.Slice lo hi none p2) pos) (tSl r te tl th):=by
 intro pins s σ H Q I h
 refine Subscript_ (thn (he pins s σ H _ I h) fun v s1 ⟨x,H1,I1,r1,q1⟩=>?_)
 refine wpAny_Slice (thn (hl pins s1 σ H1 _ I1 q1) fun vl s2 ⟨l,H2,I2,pl,q2⟩=>thn (hu pins s2 σ H2 _ I2 q2) fun vu s3 ⟨u,H3,I3,pu,q3⟩=>?_)
 rw[evalPart_none]
 refine dX ?_
 have I4:Inv X pins σ H3 {s3 with heap:=s3.heap.push {cls:=.type "slice",data:=.fields #[vl,vu,.none]} }:=I3.kept (t':=s3.toks) fun b ob q=>aZ _ q
 obtain⟨T,id,hT,ht,hg⟩:=hr pins {s3 with heap:=s3.heap.push {cls:=.type "slice",data:=.fields #[vl,vu,.none]} } σ H3 x v vl vu l u s3.heap.objs.size Q I4 r1 (Heap.IsSliceOf.new ..) pl pu q3
 show wpAny (model X.prog X.w) X.A (subscriptTail e (.Slice lo hi none p2) v (.ref s3.heap.objs.size)) (EP X pins σ Q) X.xe {s3 with heap:=s3.heap.push {cls:=.type "slice",data:=.fields #[vl,vu,.none]} }
 exact tail_any (ops:=[.ref s3.heap.objs.size,v]) ht hT hg (by with_unfolding_all rfl)
noncomputable def aaV(xs:List V)(lo hi:Option Int):List V:=(xs.drop (HT.sIx xs.length 0 lo)).take (HT.sIx xs.length xs.length hi-HT.sIx xs.length 0 lo)
theorem aq1(xs:List V)(lo hi:Option Int):(aaV xs lo hi).length<=xs.length:=by
 unfold aaV
 rw[cL,c6]
 omega
end
noncomputable def ixN(n:Nat)(i:Int):Option Nat:=if 0<=i then (if i<n then some i.toNat else none) else if -(n:Int)<=i then some (i+n).toNat else none
noncomputable def atI{α:Type}(xs:List α)(i:Int):Option α:=(ixN xs.length i).bind fun j=>xs[j]?
theorem auR{n:Nat}{i:Int}{j:Nat}(h:ixN n i=some j):seqIndex? i n=some j/\j<n/\ -(n:Int)<=i/\i<n:=by
 unfold ixN at h
 by_cases h0:0<=i
 ·rw[if_pos h0] at h
  by_cases h1:i<n
  ·rw[if_pos h1] at h
   have e:i.toNat=j:=a8 h
   exact⟨by rw[seqIndex_of h0 h1,e],by omega,by omega,h1⟩
  ·rw[if_neg h1] at h;cases h
 ·rw[if_neg h0] at h
  by_cases h1: -(n:Int)<=i
  ·rw[if_pos h1] at h
   have e:(i+n).toNat=j:=a8 h
   exact⟨by rw[seqIndex_neg (by omega) h1,e],by omega,h1,by omega⟩
  ·rw[if_neg h1] at h;cases h
theorem an3{α:Type}{xs:List α}{i:Int}{v:α}(h:atI xs i=some v):∃j,seqIndex? i xs.length=some j/\xs[j]? =some v/\j<xs.length/\ -(xs.length:Int)<=i/\i<xs.length:=by
 unfold atI at h
 cases e:ixN xs.length i with
 |none=>rw[e] at h;cases h
 |some j=>
  rw[e] at h
  obtain⟨h1,h2,h3,h4⟩:=auR e
  exact⟨j,h1,h,h2,h3,h4⟩
theorem ae6{α:Type}{xs:List α}{j:Nat}{v:α}(h:xs[j]? =some v):atI xs (j:Int)=some v:=by
 have hj:j<xs.length:=(cT.mp h).1
 have e:ixN xs.length (j:Int)=some j:=by
  unfold ixN
  rw[if_pos (by omega),if_pos (by omega)];simp
 unfold atI;rw[e];exact h
theorem ayV{α:Type}(xs:List α)(v:α):atI (xs++[v]) (-1)=some v:=by
 have hl:(xs++[v]).length=xs.length+1:=by simp
 have e:ixN (xs++[v]).length (-1)=some xs.length:=by
  unfold ixN
  rw[hl,if_neg (by decide),if_pos (by omega)]
  congr 1
  omega
 unfold atI
 rw[e]
 show (xs++[v])[xs.length]? =some v
 simp
noncomputable def avG(b:Expr):Prop:=∀o i,subscripted b false o i=operate [o,i] (getItem o i)
noncomputable def IxR(X:Cx)(r:R2):Prop:=
 ∀(value slice:Expr) (pins:List (Addr×Obj)) (s:Shared) (σ:St) (H:Hp) (x y:V) (v u:Value) (Q:VK),Inv X pins σ H s->RelV x v->RelV y u->r x y H Q->
  subscripted slice false v u=operate [v,u] (getItem v u)->wpAny (model X.prog X.w) X.A (subscriptTail value slice v u) (EP X pins σ Q) X.xe s
noncomputable def MtR(X:Cx)(id:String)(r:V->List V->Hp->VK->Prop):Prop:=
 ∀(pins:List (Addr×Obj)) (s:Shared) (σ:St) (H:Hp) (x:V) (xs:List V) (v:Value) (us:List Value) (Q:VK),Inv X pins σ H s->RelV x v->Vals xs us->r x xs H Q->
  wpAny (model X.prog X.w) X.A (call (.builtin id) (v::us)) (EP X pins σ Q) X.xe s
section
variable{X:Cx}{a b:Expr}{ta tb:TE}{pos:Pos}
theorem aJ3{r:R2}(hr:IxR X r)(ha:PE X a ta)(hb:PE X b tb)(hs:avG b):PE X (.Subscript a b pos) (tOp r ta tb):=by
 intro pins s σ H Q I h
 exact Subscript_ (aDK ha hb I h fun v u s2 x y H2 I2 rx ry q=>hr a b pins s2 σ H2 x y v u Q I2 rx ry q (hs _ _))
noncomputable def aOS(K:FG):R2:=fun x y H Q=>∃p xs i v,x=.ref p/\y=.int i/\SqL K H p xs/\atI xs i=some v/\Q v H
noncomputable def aH0(K:FG):R2:=fun x y H Q=>∃p xs i v,x=.ref p/\y=.int i/\SqT K H p xs/\atI xs i=some v/\Q v H
noncomputable def rIxS:R2:=fun x y H Q=>∃z i c,x=.str z/\y=.int i/\z.length<=sizeLine/\atI z.cps.toList i=some c/\Q (.str ⟨#[c]⟩) H
theorem aA6:IxR X (aOS X.K):=by
 intro value slice pins s σ H x y v u Q I rx ry h hs
 obtain⟨p,xs,i,z,rfl,rfl,hq,he,q⟩:=h
 cases rx
 obtain⟨t,rfl⟩:=ry
 obtain⟨its,r,pl,hz⟩:=I.list hq
 obtain⟨j,h1,h2,h3,h4,h5⟩:=an3 he
 obtain⟨w,ew,rw'⟩:=r.get h2
 have hl:=r.length
 have hn:=ah6
 have fin:EP X pins σ Q w s:=⟨z,H,I,rw',q⟩
 by_cases h0:0<=i
 ·have hj:i.toNat=j:=by
   rw[seqIndex_of h0 h5] at h1
   exact a8 h1
  exact item_listR pl.isList h0 (by omega) (by rw[hj];simpa using ew) fin hs
 ·have hj:(i+(its.toArray.size:Int)).toNat=j:=by
   rw[seqIndex_neg (by omega) h4] at h1
   rw[bB,←hl]
   exact a8 h1
  exact subscriptTail_builtinR (x:=w) pl.isList.typeIs slot_list_getitem.lookup
   (wpAny_getItem_list_neg (Q:=fun r s'=>r=w/\EP X pins σ Q r s') pl.isList (by omega) (by rw[bB]<;>omega) (by omega) (by rw[hj];simpa using ew) ⟨rfl,fin⟩) hs
theorem aEM:IxR X (aH0 X.K):=by
 intro value slice pins s σ H x y v u Q I rx ry h hs
 obtain⟨p,xs,i,z,rfl,rfl,hq,he,q⟩:=h
 cases rx
 obtain⟨t,rfl⟩:=ry
 obtain⟨its,r,pl,hz⟩:=I.tuple hq
 obtain⟨j,h1,h2,h3,h4,h5⟩:=an3 he
 obtain⟨w,ew,rw'⟩:=r.get h2
 have hl:=r.length
 have hn:=ah6
 have fin:EP X pins σ Q w s:=⟨z,H,I,rw',q⟩
 exact subscriptTail_builtinR (x:=w) pl.typeIs slot_tuple_getitem.lookup
  (getItem_tuple (j:=j) (Q:=fun r s'=>r=w/\EP X pins σ Q r s') pl (by omega) (by omega) (by rw[bB,←hl];exact h1) (by simpa using ew) ⟨rfl,fin⟩) hs
theorem aD2:IxR X rIxS:=by
 intro value slice pins s σ H x y v u Q I rx ry h hs
 obtain⟨z,i,c,rfl,rfl,hz,he,q⟩:=h
 obtain⟨t,rfl⟩:=rx
 obtain⟨t',rfl⟩:=ry
 obtain⟨j,h1,h2,h3,h4,h5⟩:=an3 he
 have hl:z.cps.toList.length=z.length:=by simp[Str.length]
 rw[hl] at h1 h4 h5
 have hn:=ah6
 exact tail_any (typeIs_str s z t) slot_str_getitem.lookup (getItem_str (c:=c) (by
  have e1:decide (i< -(2^63:Int))=false:=dU (by omega)
  have e2:decide (i ≥ 2^63)=false:=dU (by omega)
  rw[e1,e2,Bool.or_false]) (by rw[h1];simpa using h2) ⟨.str ⟨#[c]⟩,H,I.tok _,⟨_,rfl⟩,q⟩) hs
theorem as1(its:List Value)(n j:Nat)(u:Value):Obj.mapSeq (·.setIfInBounds j u) {cls:=.type "list",data:=.seq its.toArray n}={cls:=.type "list",data:=.seq (its.set j u).toArray n}:=by
 simp[Obj.mapSeq]
theorem Inv.lst{pins:List (Addr×Obj)}{σ:St}{H:Hp}{s:Shared}{p:Addr}{xs:List V}(I:Inv X pins σ H s)(h:H p=some (.lst xs)):
  ∃(its:List Value) (n:Nat),Vals xs its/\s.heap.get? p=some {cls:=.type "list",data:=.seq its.toArray n}/\xs.length<=sizeLine:=by
 obtain⟨z,its,n,r,e⟩:=I.hok p _ h
 exact⟨its,n,r,e,z⟩
theorem Inv.lstUpd{pins:List (Addr×Obj)}{σ:St}{H:Hp}{s:Shared}{p:Addr}{xs ys:List V}{its its':List Value}{n n':Nat}{f:Obj->Obj}(I:Inv X pins σ H s)(h:H p=some (.lst xs))
  (ho:s.heap.get? p=some {cls:=.type "list",data:=.seq its.toArray n}) (hf:f {cls:=.type "list",data:=.seq its.toArray n}={cls:=.type "list",data:=.seq its'.toArray n'}) (r:Vals ys its') (hz:ys.length<=sizeLine) (t:Nat):
  Inv X pins σ (upd H p (.lst ys)) {s with heap:=s.heap.update p f,toks:=t}:=by
 have e:(s.heap.update p f).get? p=some {cls:=.type "list",data:=.seq its'.toArray n'}:=by
  rw[Heap.get?_update_self f ho (by rw[hf]<;>rfl),hf]
 refine I.write (x:=p) (e:=p) (by rw[h];trivial) (.inl rfl) (fun b u hb q=>(Heap.get?_update_other _ _ (Ne.symm hb)).trans q) ⟨_,e⟩ ?_
 exact⟨hz,its',n',r,e⟩
noncomputable def aDB:V->V->V->Hp->(Hp->Prop)->Prop:=fun o i v H Q=>∃p xs k j,o=.ref p/\i=.int k/\H p=some (.lst xs)/\ixN xs.length k=some j/\Q (upd H p (.lst (xs.set j v)))
theorem azG:aJI X aDB:=by
 intro pins s σ H o i v ov iv u Q I ro ri rv h
 obtain⟨p,xs,k,j,rfl,rfl,hp,hj,q⟩:=h
 cases ro
 obtain⟨t,rfl⟩:=ri
 obtain⟨its,n,r,ho,hz⟩:=I.lst hp
 obtain⟨h1,h2,h3,h4⟩:=auR hj
 have hl:=r.length
 have hn:=ah6
 have I':Inv X pins σ (upd H p (.lst (xs.set j v))) {s with heap:=s.heap.update p (Obj.mapSeq (·.setIfInBounds j u))}:=
  I.lstUpd hp ho (as1 its n j u) (r.set rv j) (by rw[List.length_set];exact hz) s.toks
 by_cases h0:0<=k
 ·have hk:k.toNat=j:=by
   rw[seqIndex_of h0 h4] at h1
   exact a8 h1
  exact PySem.W.ki_setAt ho h0 (by omega) (by rw[bB,←hl];exact h4) (by rw[hk];exact⟨_,I',q⟩)
 ·have hk:(k+(its.toArray.size:Int)).toNat=j:=by
   rw[seqIndex_neg (by omega) h3] at h1
   rw[bB,←hl]
   exact a8 h1
  exact PySem.W.ki_setBack ho (by omega) (by rw[bB,←hl];exact h3) (by omega) (by rw[hk];exact⟨_,I',q⟩)
theorem an9(lo hi:Option Int)(n:Nat):(sliceBounds lo hi none n).1=((HT.sIx n 0 lo:Nat):Int)/\(sliceBounds lo hi none n).2.1=((HT.sIx n n hi:Nat):Int)/\(sliceBounds lo hi none n).2.2=1:=by
 refine⟨?_,?_,rfl⟩
 ·cases lo with
  |none=>simp[sliceBounds,HT.sIx]
  |some i=>
   simp only[sliceBounds,HT.sIx,Option.getD_none,show (1:Int)>0 by decide,if_true]
   by_cases h:i<0
   ·simp only[h,if_true]<;>omega
   ·simp only[h,if_false]<;>omega
 ·cases hi with
  |none=>simp[sliceBounds,HT.sIx]
  |some i=>
   simp only[sliceBounds,HT.sIx,Option.getD_none,show (1:Int)>0 by decide,if_true]
   by_cases h:i<0
   ·simp only[h,if_true]<;>omega
   ·simp only[h,if_false]<;>omega
theorem amB(its:List Value)(lo hi:Option Int):slicePick its.toArray lo hi none=((its.drop (HT.sIx its.length 0 lo)).take (HT.sIx its.length its.length hi-HT.sIx its.length 0 lo)).toArray:=by
 obtain⟨h1,h2,h3⟩:=an9 lo hi its.toArray.size
 unfold slicePick
 rw[h1,h2,h3]
 simp only[sliceRange_one,pick_run,bB]<;>rfl
noncomputable def aKR(K:FG):V->Option Int->Option Int->Hp->VK->Prop:=fun x lo hi H Q=>∃a xs,x=.ref a/\SqL K H a xs/\∀p,H p=none->Q (.ref p) (upd H p (.lst (aaV xs lo hi)))
theorem aAU:SlR X (aKR X.K):=by
 intro pins s σ H x v vl vu lo hi sl Q I rx hs pl pu h
 obtain⟨a,xs,rfl,hx,q⟩:=h
 cases rx
 obtain⟨its,r,ht,hz⟩:=I.list hx
 have hlen:=r.length
 refine⟨"list",_,slot_list_getitem.lookup,ht.isList.typeIs,?_⟩
 refine wpAny_getItem_list_slice ht.isList hs pl pu .none (by simp) ?_ (by rw[bB]<;>omega)
 rw[amB,←hlen]
 refine⟨.ref s.heap.objs.size,_,I.laid (t':=s.toks) (o:=.lst (aaV xs lo hi)) (fun b ob q=>aZ _ q) (aQ _) ?_,rfl,q _ (I.hok.fresh (aQ _))⟩
 exact⟨bE (aq1 xs lo hi) hz,_,0,(r.drop (HT.sIx xs.length 0 lo)).take (HT.sIx xs.length xs.length hi-HT.sIx xs.length 0 lo),bK _ rfl⟩
noncomputable def afX:V->Bool
 |.non=>true
 |.bl _=>true
 |.int _=>true
 |.str _=>true
 |_=>false
noncomputable def eqV:V->V->Bool
 |.non,.non=>true
 |.bl a,.bl b=>a==b
 |.bl a,.int b=>(if a then 1 else 0)==b
 |.int a,.bl b=>a==(if b then 1 else 0)
 |.int a,.int b=>a==b
 |.str a,.str b=>a==b
 |_,_=>false
theorem aDW{A:Around}{s:Shared}{y x:V}{u v:Value}(ry:RelV y u)(rx:RelV x v)(fy:afX y=true)(fx:afX x=true):SeqAt.EqAt A s u v (eqV y x):=by
 cases y with
 |non=>
  cases ry
  cases x with
  |non=>cases rx;exact SeqAt.EqAt.same _
  |bl b=>cases rx;exact SeqAt.EqAt.none_bool b
  |int b=>obtain⟨t,rfl⟩:=rx;exact SeqAt.EqAt.none_int b t
  |str b=>obtain⟨t,rfl⟩:=rx;exact SeqAt.EqAt.none_str b t
  |_=>exact absurd (show false=true from fx) a9
 |bl a=>
  cases ry
  cases x with
  |non=>cases rx;exact SeqAt.EqAt.bool_none a
  |bl b=>cases rx;exact SeqAt.EqAt.bool_bool a b
  |int b=>obtain⟨t,rfl⟩:=rx;exact SeqAt.EqAt.bool_int a b t
  |str b=>obtain⟨t,rfl⟩:=rx;exact SeqAt.EqAt.bool_str a b t
  |_=>exact absurd (show false=true from fx) a9
 |int a=>
  obtain⟨t',rfl⟩:=ry
  cases x with
  |non=>cases rx;exact SeqAt.EqAt.int_none a t'
  |bl b=>cases rx;exact SeqAt.EqAt.int_bool a t' b
  |int b=>obtain⟨t,rfl⟩:=rx;exact SeqAt.EqAt.int_int a t' b t
  |str b=>obtain⟨t,rfl⟩:=rx;exact SeqAt.EqAt.int_str a t' b t
  |_=>exact absurd (show false=true from fx) a9
 |str a=>
  obtain⟨t',rfl⟩:=ry
  cases x with
  |non=>cases rx;exact SeqAt.EqAt.str_none a t'
  |bl b=>cases rx;exact SeqAt.EqAt.str_bool a t' b
  |int b=>obtain⟨t,rfl⟩:=rx;exact SeqAt.EqAt.str_int a t' b t
  |str b=>obtain⟨t,rfl⟩:=rx;exact SeqAt.EqAt.str_str a t' b t
  |_=>exact absurd (show false=true from fx) a9
 |_=>exact absurd (show false=true from fy) a9
noncomputable def eqU(x:V)(u:Value):Bool:=match u with
 |.none=>eqV .non x
 |.bool b=>eqV (.bl b) x
 |.int i _=>eqV (.int i) x
 |.str z _=>eqV (.str z) x
 |_=>false
theorem ay6{x y:V}{u:Value}(r:RelV y u)(f:afX y=true):eqU x u=eqV y x:=by
 cases y with
 |non=>cases r;rfl
 |bl b=>cases r;rfl
 |int i=>obtain⟨t,rfl⟩:=r;rfl
 |str z=>obtain⟨t,rfl⟩:=r;rfl
 |_=>exact absurd (show false=true from f) a9
theorem aoK{x:V}:∀{xs:List V} {us:List Value},Vals xs us->xs.all afX=true->us.any (eqU x)=xs.any fun y=>eqV y x
 |_,_,.nil,_=>rfl
 |y::xs,u::us,.cons r t,f=>by
  rw[List.all_cons,bJ] at f
  rw[cI,cI,ay6 r f.1,aoK t f.2]
theorem ak5{A:Around}{s:Shared}{x:V}{v:Value}(rx:RelV x v)(fx:afX x=true):∀{xs:List V} {us:List Value},Vals xs us->xs.all afX=true->∀u∈us,SeqAt.EqAt A s u v (eqU x u)
 |_,_,.nil,_=>fun u hu=>by cases hu
 |y::xs,u::us,.cons r t,f=>fun u' hu=>by
  rw[List.all_cons,bJ] at f
  rcases aW.mp hu with rfl | hu
  ·rw[ay6 r f.1];exact aDW r rx f.1 fx
  ·exact ak5 rx fx t f.2 u' hu
noncomputable def inV(x:V)(xs:List V):Bool:=xs.any fun y=>eqV y x
noncomputable def rIn(K:FG)(neg:Bool):R2:=fun x y H Q=>∃p xs,y=.ref p/\(SqL K H p xs∨SqT K H p xs)/\afX x=true/\xs.all afX=true/\Q (.bl (if neg then !inV x xs else inV x xs)) H
theorem awI:OpR X (compareOp .In) (rIn X.K false):=by
 intro pins s σ H x y v u Q I rx ry h
 obtain⟨p,xs,rfl,hq,fx,fs,q⟩:=h
 cases ry
 rcases hq with hq | hq
 ·obtain⟨its,r,pl,hz⟩:=I.list hq
  refine SeqAt.in_listAt (eqU x) pl.isList (fun w hw=>ak5 rx fx r fs w (by simpa using hw)) ⟨.bl _,H,I,rfl,?_⟩
  rw[show its.toArray.any (eqU x)=its.any (eqU x) by simp,aoK r fs]
  exact q
 ·obtain⟨its,r,pl,hz⟩:=I.tuple hq
  refine SeqAt.in_tupleAt (eqU x) pl (fun w hw=>ak5 rx fx r fs w (by simpa using hw)) ⟨.bl _,H,I,rfl,?_⟩
  rw[show its.toArray.any (eqU x)=its.any (eqU x) by simp,aoK r fs]
  exact q
theorem aoX:aeK X (.builtin "len") (fun xs H Q=>∃p ys,xs=[.ref p]/\(SqL X.K H p ys∨SqT X.K H p ys)/\Q (.int ys.length) H):=by
 intro pins s σ H xs us Q I r h
 obtain⟨p,ys,rfl,hq,q⟩:=h
 obtain⟨u,rfl,rx⟩:=ac3 r
 cases rx
 have hn:=ah6
 rcases hq with hq | hq
 ·obtain⟨its,r',pl,hz⟩:=I.list hq
  have hlen:=r'.length
  exact Calls.call_len_list pl.isList (by simp only[bB]<;>omega) ⟨.int ys.length,H,I.tok _,⟨s.toks+1,by rw[bB,hlen]⟩,q⟩
 ·obtain⟨its,r',pl,hz⟩:=I.tuple hq
  have hlen:=r'.length
  exact len_tuple pl (by simp only[bB]<;>omega) ⟨.int ys.length,H,I.tok _,⟨s.toks+1,by rw[bB,hlen]⟩,q⟩
theorem aoU:aeK X (.builtin "len") (fun xs H Q=>∃z,xs=[.str z]/\z.length<=sizeLine/\Q (.int z.length) H):=by
 intro pins s σ H xs us Q I r h
 obtain⟨z,rfl,hz,q⟩:=h
 obtain⟨u,rfl,t,rfl⟩:=ac3 r
 have hn:=ah6
 exact len_str (by omega) ⟨.int z.length,H,I.tok _,⟨_,rfl⟩,q⟩
theorem aoZ:aeK X (.type "list") (fun xs H Q=>∃p ys,xs=[.ref p]/\(SqL X.K H p ys∨SqT X.K H p ys)/\∀l,H l=none->Q (.ref l) (upd H l (.lst ys))):=by
 intro pins s σ H xs us Q I r h
 obtain⟨p,ys,rfl,hq,q⟩:=h
 obtain⟨u,rfl,rx⟩:=ac3 r
 cases rx
 have fin:∀(its:List Value),Vals ys its->ys.length<=sizeLine->∀(h':Heap) (c':Nat),(∀b o',s.heap.get? b=some o'->h'.get? b=some o')->
   h'.get? s.heap.objs.size=some {cls:=.type "list",dict:=none,data:=.seq its.toArray c',slots:= #[]}->EP X pins σ Q (.ref s.heap.objs.size) {s with heap:=h'}:=fun its r' hz h' c' kp e=>
  ⟨.ref s.heap.objs.size,_,I.laid (t':=s.toks) kp (aQ _) (show ObjOk X.prog X.w _ h' _ (.lst ys) from ⟨hz,its,c',r',e⟩),rfl,q _ (I.hok.fresh (aQ _))⟩
 rcases hq with hq | hq
 ·obtain⟨its,r',pl,hz⟩:=I.list hq
  have hlen:=r'.length
  obtain⟨o,ho,hc,n,hd⟩:=pl.isList
  exact call_list_seq p (.inl rfl) ho hc hd (fun h' c' kp e=>fin its r' hz h' c' kp e) (by simp only[bB]<;>omega)
 ·obtain⟨its,r',pl,hz⟩:=I.tuple hq
  have hlen:=r'.length
  obtain⟨o,ho,hc,n,hd⟩:=pl
  exact call_list_seq p (.inr rfl) ho hc hd (fun h' c' kp e=>fin its r' hz h' c' kp e) (by simp only[bB]<;>omega)
noncomputable def tyV(K:FG)(T:String)(x:V)(H:Hp):Prop:=match x with
 |.str _=>T="str"
 |.int _=>T="int"
 |.ref p=>(T="list"/\∃xs,SqL K H p xs)∨(T="tuple"/\∃o,K.lookup p=some o/\o.cls=.type "tuple"/\o.dict=none)∨
   (T="dict"/\((∃kvs,H p=some (.dK kvs))∨∃kvs,H p=some (.dT kvs)))∨(T="set"/\∃S n,H p=some (.set S n))
 |_=>False
theorem azX{pins:List (Addr×Obj)}{σ:St}{H:Hp}{s:Shared}{T:String}{x:V}{v:Value}(I:Inv X pins σ H s)(r:RelV x v)(ty:tyV X.K T x H):
  s.TypeIs v T/\∀a,v=.ref a->∃ob,s.heap.get? a=some ob/\ob.dict=none:=by
 cases x with
 |str z=>
  obtain⟨t,rfl⟩:=r
  cases (show T="str" from ty)
  exact⟨typeIs_str s z t,fun _ e=>nomatch e⟩
 |int i=>
  obtain⟨t,rfl⟩:=r
  cases (show T="int" from ty)
  exact⟨typeIs_int s i t,fun _ e=>nomatch e⟩
 |ref p=>
  cases r
  rcases ty with ⟨rfl,xs,hq⟩ | ⟨rfl,o,hk,hc,hd⟩ | ⟨rfl,hk⟩ | ⟨rfl,S,n,hk⟩
  ·obtain⟨its,_,pl,_⟩:=I.list hq
   refine⟨pl.isList.typeIs,fun a e=>?_⟩
   cases e
   obtain⟨o,n,e,c,hd,_⟩:=pl
   exact⟨o,e,hd⟩
  ·refine⟨⟨o,I.kIn p o hk,hc⟩,fun a e=>?_⟩
   cases e
   exact⟨o,I.kIn _ o hk,hd⟩
  ·have z:∃o,s.heap.get? p=some o/\o.ExactDict:=by
    rcases hk with ⟨kvs,hk⟩ | ⟨kvs,hk⟩
    ·obtain⟨_,_,_,_,o,_,_,e,ex,_⟩:=I.hok p _ hk
     exact⟨o,e,ex⟩
    ·obtain⟨_,_,_,_,o,_,_,e,ex,_⟩:=I.hok p _ hk
     exact⟨o,e,ex⟩
   obtain⟨o,e,ex⟩:=z
   refine⟨⟨o,e,ex.1⟩,fun a e2=>?_⟩
   cases e2
   exact⟨o,e,ex.2.1⟩
  ·obtain⟨o,_,_,_,e,ex,_⟩:=I.hok p _ hk
   refine⟨⟨o,e,ex.1⟩,fun a e2=>?_⟩
   cases e2
   exact⟨o,e,ex.2.1⟩
 |_=>exact False.elim ty
noncomputable def aE3(K:FG)(T:String)(r:V->List V->Hp->VK->Prop)(to:TE):TE:=fun σ H Q=>to σ H fun x H1=>tyV K T x H1/\r x [] H1 Q
noncomputable def tBM(K:FG)(T:String)(r:V->List V->Hp->VK->Prop)(to:TE)(t:TA):TE:=fun σ H Q=>to σ H fun x H1=>tyV K T x H1/\t σ H1 fun xs H2=>r x xs H2 Q
variable{o e:Expr}{es:List Expr}{to:TE}{t:TA}{name:Str}{apos cpos:Pos}{T id:String}{r:V->List V->Hp->VK->Prop}
theorem azU(pa:PlainAttrs T)(slot:Slot T name id)(hty:typeOf (.builtin id)=pure (.type "method_descriptor"))(hm:MtR X id r)(ho:PE X o to)
  (hbase:attributeBase o name X.env (eval o X.env)=eval o X.env:=by rfl) (hline:(apos.endLine==cpos.line)=true:=by rfl):PE X (.Call (.Attribute o name apos) [] [] cpos) (aE3 X.K T r to):=by
 intro pins s σ H Q I h
 refine wpAny_Call_method0_late hbase hline (thn (ho pins s σ H _ I h) fun v s1 ⟨x,H1,I1,r1,ty,q1⟩=>?_)
 obtain⟨h1,h2⟩:=azX I1 r1 ty
 exact⟨T,id,pa,slot,hty,h1,h2,Calls.callWith_builtin rfl (PySem.evalArgs_none (hm pins s1 σ H1 x [] v [] Q I1 r1 .nil q1))⟩
theorem arA(pa:PlainAttrs T)(slot:Slot T name id)(hty:typeOf (.builtin id)=pure (.type "method_descriptor"))(hm:MtR X id r)(ho:PE X o to)(ha:PA X (e::es) t)
  (hbase:attributeBase o name X.env (eval o X.env)=eval o X.env:=by rfl)
  (hfew:((backTo cpos (starEach (e::es) X.env)).all (fun x=> !x.1)&&(backToKw cpos (keywordEach [] X.env)).all (fun x=>x.1.isSome)
   &&decide ((e::es).length+([]:List Keyword).length+(if ([]:List Keyword).isEmpty then 0 else 1)<30))=true:=by rfl)
  (hline:(apos.endLine==cpos.line)=true:=by rfl) (hs:starEach (e::es) X.env=(false,eval e X.env)::starEach es X.env:=by rfl) (hplain:(backTo cpos (starEach es X.env)).any (·.1)=false:=by rfl):
  PE X (.Call (.Attribute o name apos) (e::es) [] cpos) (tBM X.K T r to t):=by
 intro pins s σ H Q I h
 refine wpAny_Call_method_late hbase hfew hline rfl (thn (ho pins s σ H _ I h) fun v s1 ⟨x,H1,I1,r1,ty,q1⟩=>?_)
 obtain⟨h1,h2⟩:=azX I1 r1 ty
 refine⟨T,id,pa,slot,hty,h1,h2,?_⟩
 have hA:=ha cpos pins s1 σ H1 _ I1 q1
 rw[hs] at hA ⊢
 refine Calls.callWith_builtin (by show (false||(backTo cpos (starEach es X.env)).any (·.1))=false;rw[hplain]<;>rfl) (Calls.evalArgs_plain ?_)
 exact thn hA fun us s2 ⟨vs,H2,I2,r2,q2⟩=>hm pins s2 σ H2 x vs v us Q I2 r1 r2 q2
end
noncomputable def MtM(X:Cx)(id:String)(r:V->List V->Hp->VK->Prop):Prop:=
 ∀(pins:List (Addr×Obj)) (s:Shared) (σ:St) (H:Hp) (x:V) (xs:List V) (v:Value) (us:List Value) (Q:VK),Inv X pins σ H s->RelV x v->Vals xs us->r x xs H Q->
  wpAny (model X.prog X.w) X.A (call (.builtin id) (v::us)) (EP X pins σ Q) X.xe s
theorem Vals.one:∀{x:V} {us:List Value},Vals [x] us->∃u,us=[u]/\RelV x u
 |_,_,.cons r .nil=>⟨_,rfl,r⟩
theorem Vals.rep{xs:List V}{us:List Value}(h:Vals xs us):∀k:Nat,Vals (List.replicate k xs).flatten (List.replicate k us).flatten
 |0=>.nil
 |k+1=>by
  rw[dD,dD,cU,cU]
  exact Vals.append h (Vals.rep h k)
theorem am4(its:List Value):∀(k:Nat) (acc:List Value),
  List.foldl (fun x1 x2=>x1++x2) acc.toArray (List.replicate k its.toArray)=(acc++(List.replicate k its).flatten).toArray
 |0,acc=>by simp
 |k+1,acc=>by
  have e:acc.toArray++its.toArray=(acc++its).toArray:=by simp
  have e2:(acc++its)++(List.replicate k its).flatten=acc++(List.replicate (k+1) its).flatten:=by
   rw[dD,cU,List.append_assoc]
  rw[←e2,←am4 its k (acc++its),←e,dD,List.foldl_cons]
section
variable{X:Cx}{pins:List (Addr×Obj)}{σ:St}{H:Hp}{s:Shared}{l b:Addr}{xs ys zs:List V}
theorem Inv.lset{its its':List Value}{n:Nat}{f:Array Value->Array Value}{t':Nat}(I:Inv X pins σ H s)(hH:H l=some (.lst xs))
  (e:s.heap.get? l=some {cls:=.type "list",data:=.seq its.toArray n}) (hf:f its.toArray=its'.toArray) (hv:Vals ys its') (hz:ys.length<=sizeLine):
  Inv X pins σ (upd H l (.lst ys)) {s with heap:=s.heap.update l (Obj.mapSeq f),toks:=t'}:=by
 have q:=PySem.IsL.update e f
 rw[hf] at q
 refine I.write (x:=l) (e:=l) (by rw[hH];exact trivial) (.inl rfl) (fun b' u hb hu=>(Heap.get?_update_other s.heap (Obj.mapSeq f) (Ne.symm hb)).trans hu) ⟨_,q⟩ ?_
 exact⟨hz,its',_,hv,q⟩
theorem Inv.lnew{its:List Value}{t':Nat}(I:Inv X pins σ H s)(hv:Vals ys its)(hz:ys.length<=sizeLine):
  Inv X pins σ (upd H s.heap.objs.size (.lst ys)) {s with heap:=s.heap.push {cls:=.type "list",data:=.seq its.toArray},toks:=t'}:=
 I.laid (fun _ _ q=>aZ _ q) (aQ _) ⟨hz,its,0,hv,bK _ rfl⟩
theorem Inv.fresh(I:Inv X pins σ H s):H s.heap.objs.size=none:=I.hok.fresh (aQ _)
theorem Inv.lstM(I:Inv X pins σ H s)(hH:H l=some (.lst xs)):xs.length<=sizeLine/\∃(its:List Value) (n:Nat),Vals xs its/\xs.length=its.length/\s.heap.get? l=some {cls:=.type "list",data:=.seq its.toArray n}:=by
 obtain⟨z,its,n,r,e⟩:=I.hok l _ hH
 exact⟨z,its,n,r,r.length,e⟩
theorem ay4{n:Nat}(h:n<=sizeLine):Builtin.List.listTooLong n=false:=by
 unfold Builtin.List.listTooLong
 exact dU (by omega)
end
section
variable{X:Cx}
noncomputable def auM:V->List V->Hp->VK->Prop:=fun x vs H Q=>∃l xs y,x=.ref l/\vs=[y]/\H l=some (.lst xs)/\xs.length<sizeLine/\Q .non (upd H l (.lst (xs++[y])))
theorem ahT:MtM X "list.append" auM:=by
 intro pins s σ H x vs v us Q I rx rv h
 obtain⟨l,xs,y,rfl,rfl,hH,hz,q⟩:=h
 cases rx
 obtain⟨u,rfl,ru⟩:=rv.one
 obtain⟨z,its,n,r,hl,e⟩:=I.lstM hH
 refine call_meets F.slot_list_append ⟨_,e,rfl⟩ F.entry_list_append (F.args_list_append_2 _ _) (PySem.list_append l its.toArray n u (by rw[bB];omega)) ⟨e,?_⟩
 refine⟨.non,_,I.lset (its':=its++[u]) hH e (by simp) (r.append (.cons ru .nil)) ?_,rfl,q⟩
 rw[aU,bM]
 omega
noncomputable def aOT:R2:=fun x y H Q=>∃l b xs zs,x=.ref l/\y=.ref b/\H l=some (.lst xs)/\H b=some (.lst zs)/\xs.length+zs.length<=sizeLine/\∀p,H p=none->Q (.ref p) (upd H p (.lst (xs++zs)))
theorem aE1:OpR X (binaryOp .Add) aOT:=by
 intro pins s σ H x y v u Q I rx ry h
 obtain⟨l,b,xs,zs,rfl,rfl,hH,hB,hz,q⟩:=h
 cases rx
 cases ry
 obtain⟨z,its,n,r,hl,e⟩:=I.lstM hH
 obtain⟨z2,its2,n2,r2,hl2,e2⟩:=I.lstM hB
 refine PySem.P.add_list e e2 ?_ (by rw[bB,bB];omega)
 have ea:its.toArray++its2.toArray=(its++its2).toArray:=by simp
 rw[ea]
 exact⟨.ref _,_,I.lnew (t':=s.toks) (r.append r2) (by rw[aU];omega),rfl,q _ I.fresh⟩
noncomputable def aQW:R2:=fun x y H Q=>∃l k xs,x=.ref l/\y=.int k/\H l=some (.lst xs)/\ -(2^63)<=k/\k<2^63/\xs.length*k.toNat<=sizeLine/\
 ∀p,H p=none->Q (.ref p) (upd H p (.lst (List.replicate k.toNat xs).flatten))
theorem aB4{α:Type}(xs:List α)(k:Nat):(List.replicate k xs).flatten.length=k*xs.length:=by
 induction k with
 |zero=>simp
 |succ k ih=>rw[dD,cU,aU,ih,Nat.succ_mul,Nat.add_comm]
theorem aEI:OpR X (binaryOp .Mult) aQW:=by
 intro pins s σ H x y v u Q I rx ry h
 obtain⟨l,k,xs,rfl,rfl,hH,h1,h2,hz,q⟩:=h
 cases rx
 obtain⟨t,rfl⟩:=ry
 obtain⟨z,its,n,r,hl,e⟩:=I.lstM hH
 have hlen:its.toArray.size*k.toNat<=sizeLine:=by rw[bB,←hl];exact hz
 have hcap:¬its.toArray.size*k.toNat>(2^63-1) / 8:=by
  have:(sizeLine:Nat)<=(2^63-1) / 8:=by decide
  omega
 have hfit:¬(!Builtin.List.listFitsIndex k)=true:=by
  rw[fitsIndex_both h1 h2]
  exact a9
 have hlong:¬Builtin.List.listTooLong (its.toArray.size*k.toNat)=true:=by
  rw[ay4 hlen]
  exact a9
 have hnew:List.foldl (fun x1 x2=>x1++x2) #[] (List.replicate (if its.toArray.isEmpty=true then 0 else k.toNat) its.toArray)=(List.replicate k.toNat its).flatten.toArray:=by
  have f0:∀m:Nat,List.foldl (fun x1 x2=>x1++x2) #[] (List.replicate m its.toArray)=(List.replicate m its).flatten.toArray:=fun m=>by
   have:=am4 its m []
   rw[List.nil_append] at this
   exact this
  rw[f0]
  cases its with
  |nil=>simp
  |cons a r'=>rw[if_neg (by simp)]
 refine wpAny_binaryOp_repeat_ref (T:="list") (U:="int") (by decide) ⟨_,e,rfl⟩ (fun s'=>typeIs_int s' k t) noFill_list_mul F.fills_int_mul F.slot_int_rmul repeat_list F.slot_int_index.lookup
  (call_meets F.slot_int_rmul (typeIs_int s k t) F.entry_int_rmul (F.args_int_rmul_2 _ _) (int___rmul___int_list k t l its.toArray n)
   ⟨e,rfl,⟨_,e,rfl⟩,call_meets F.slot_list_mul ⟨_,e,rfl⟩ F.entry_list_mul (F.args_list_mul_2 _ _) (AutoListH.list___mul___list_int_3 l its.toArray n k t hfit hcap hlong) ⟨e,?_⟩⟩)
 rw[hnew]
 exact⟨.ref _,_,I.lnew (t':=s.toks) (r.rep k.toNat) (by rw[aB4,Nat.mul_comm];exact hz),rfl,q _ I.fresh⟩
end
section
variable{prog:Program}{w:World}{A:Around}{E:Value->Shared->Prop}{s:Shared}
end
section
variable{X:Cx}
end
end L2
namespace Att
open PySem PySem.W PySem.Calls PyProof.Rows
theorem ai2{P:Params}{h:Heap}:∀(ns:List Int) (vs:List Value),WellAll P h vs (ns.map WData.int)->IntsAre vs ns:=by
 intro ns
 induction ns with
 |nil=>
  intro vs w
  rw[List.map_nil] at w
  cases w
  exact .nil
 |cons n ns ih=>
  intro vs w
  rw[List.map_cons] at w
  cases w with
  |cons a b=>
   cases a
   exact .cons _ _ (ih _ b)
theorem awZ{l:OpenLaw}{n:Nat}(hn:l.most=some n){P:Params}{h:Heap}{args:List WData}{vals:List Value}
  (hpre:l.row.toRowW.claim.pre args=true) (hwl:WellAll P h vals args):
  ∃a vs ns,vals=[Value.ref a]/\args=[WData.list (ns.map WData.int)]/\h.get? a=some {cls:=.type "list",data:=.seq vs.toArray}/\IntsAre vs ns/\ns.length<=n:=by
 have hsh:WShape.hasAll [] args [.list .int]=true:=(pre_splitW hpre).1
 have hc:l.pre.holds [] {args:=args}=true:=(pre_splitW hpre).2
 obtain⟨d,r,rfl,h1,h2⟩:=hasAllW_cons hsh
 obtain rfl:=hasAllW_nil h2
 obtain⟨xs,rfl,h3⟩:=hasW_list h1
 obtain⟨ns,rfl⟩:=items_int h3
 have hlen:ns.length<=n:=by
  unfold OpenLaw.pre at hc
  have h4:(WTm.not (.lt (.lit (.int (n:Int))) (.len (.arg 0)))).holds [] {args:=[.list (ns.map .int)]}=true:=by
   have h4:=(holds_andW hc).1
   rw[hn] at h4
   exact h4
  have h5:=condW_of h4 (w_not (w_lt w_lit (w_len_list (w_arg rfl))))
  rw[List.length_map] at h5
  refine Nat.le_of_not_lt fun q=>?_
  have q':(n:Int)<((ns.length:Nat):Int):=by omega
  first
   |(rw[decide_eq_true q'] at h5;exact absurd h5 (by decide))
   |(simp at h5;omega)
 cases hwl with
 |cons w1 w2=>
  cases w2
  cases w1 with
  |list ho hall=>exact⟨_,_,ns,rfl,rfl,ho,ai2 ns _ hall,hlen⟩
theorem avL(l:OpenLaw)(args:List WData):l.row.toRowW.claim.post args (.bool true) args=true:=
 postW_of (r:=l.row.toRowW) (X:=(true==true))
  (show WShape.has [] (.bool true) .bool=true by first | rfl | decide | simp[WShape.has,WShape.arms,WShape.armsAll])
  (show (WTm.eq .res (.lit (.bool true))).value [] {args:=args,res:=some (.bool true),after:=args}=some (.bool (true==true)) from w_eq_bool (w_res rfl) w_lit) rfl
theorem attach_call{l:OpenLaw}{n:Nat}{q:Program}{loose:List Str}{XP:(Str->Option Value)->Heap->Prop}{YP:World->Heap->Prop}{d:DefRec}
  (hn:l.most=some n) (hdf:d.params.defaults=[])
  (call:∀(w:World) (s₀ s₁:Shared) (mg mb:Str->Option Value) (fa:Addr) (o:Obj) (pm cd doc:Value) (a:Addr) (vs:List Value) (ns:List Int),
   Ground q loose [] XP w s₀ mg mb s₁.heap->YP w s₁.heap->
   s₁.heap.get? fa=some o->o.data=.func (docDef d.name d.params d.body d.scope pm cd doc)->s₁.heap.CodeRec cd d.name->mg d.name=some (.ref fa)->
   s₁.heap.get? a=some {cls:=.type "list",data:=.seq vs.toArray}->IntsAre vs ns->ns.length<=n->s₁.gens= #[]->
   codeAny (model l.prog w) callerA (.call (.ref fa) ⟨[.ref a],[]⟩) (fun r s'=>r=.ok (.ret (.bool true))/\OldK s₁.heap s'.heap/\s'.os=s₁.os/\AllBare s'.gens) s₁):
  WalkO q loose XP YP l.row.toRowW d [] (fun f vs=>PySem.call f vs):=by
 intro w s₀ s₁ mg mb G Y fa o pm cd doc dV kV ho hd hcd hD hmg hg args vals as hpre hlay hrd hwl hlo
 obtain rfl:dV=.none:=Dflts.none hD hdf
 obtain rfl:kV=.none:=Dflts.noKw hD
 obtain⟨a,vs,ns,rfl,rfl,hobj,hints,hlen⟩:=awZ hn hpre hwl
 refine enter_call (codeAny_mono (call w s₀ s₁ mg mb fa o pm cd doc a vs ns G Y ho (fd_plain hd) hcd hmg hobj hints hlen hg) fun r s' hq=>?_)
 obtain⟨rfl,h2,h3,h4⟩:=hq
 exact⟨.inl ⟨.bool true,.bool true,[],rfl,fun _=>rfl,.bool true,avL l _,fun _=>⟨List.Pairwise.nil,fun _ hm=>(nomatch hm)⟩⟩,h2,h3,h4⟩
section
variable{prog:Program}{w:World}{A:Around}{E:Value->Shared->Prop}{s:Shared}{K:Frag}
end
end Att
namespace L2
open PySem PySem.Spec PyProof.Rows
theorem am3:∀{vs:List Value} {ns:List Int},IntsAre vs ns->Vals (ns.map V.int) vs
 |_,_,.nil=>.nil
 |_,_,.cons n t h=>.cons ⟨t,rfl⟩ (am3 h)
noncomputable def aa0(s:Stmt)(j:Nat):Stmt:=match s with
 |.ClassDef _ _ _ body _ _ _ _ _ _ _=>body.getD j (.Pass ⟨0,0,0,0⟩)
 |_=>.Pass ⟨0,0,0,0⟩
noncomputable def aa7(s:Stmt):Arguments:=match s with
 |.FunctionDef _ a _ _ _ _ _ _ _ _=>a
 |_=>{posonlyargs:=[],args:=[],vararg:=none,kwonlyargs:=[],kw_defaults:=[],kwarg:=none,defaults:=[]}
noncomputable def aaU(s:Stmt):List Stmt:=match s with
 |.FunctionDef _ _ b _ _ _ _ _ _ _=>b
 |_=>[]
noncomputable def aaC(s:Stmt):Scope:=match s with
 |.FunctionDef _ _ _ _ _ _ sc _ _ _=>sc
 |_=>{kind:=.function,names:=[],isGenerator:=false,isCoroutine:=false}
noncomputable abbrev CX0:CXT:=fun _ _ _ _ _ _=>False
noncomputable abbrev E0:XK:=fun _ _ _=>False
theorem ajW{X:Cx}:adR CX0 X E0:=fun _ _ _ _ _ _ _ h=>h.elim
structure Fun(K:FG)(x qual:Str)(st:Stmt)(f:Addr)(fd:FuncData):Prop where
 ex:∃(oc:Value) (od:Option Addr) (kV doc pm:Value) (an:Option Addr) (cdv ct:Value) (osl:Array (Option Value)),
  fd=PySem.W.fnOf x qual (aa7 st) (aaU st) (aaC st) .none kV doc pm an cdv ct/\K.lookup f=some ⟨oc,od,.func fd,osl⟩/\PySem.W.codeIn K cdv qual=true
 kp:PySem.W.keepIn K (.ref f)=true
section
variable{P:Program}{w:World}{K:FG}{mg:Str->Option Value}{base:Heap}
theorem Fun.ok{x qual:Str}{st:Stmt}{f:Addr}{fd:FuncData}{N ps:List Str}{k:Nat}{sp:Sp}(F:Fun K x qual st f fd)(S:FnScope N ps (aaC st))(len:∀vs H Q E,sp vs H Q E->vs.length=ps.length)
  (hbody:∀(cdv:Value) (A:Around) (outer:List Env) (s:Shared) (H:Hp) (vs:List V) (Q:VK) (E:XK),Room k (A.deeper (envOfC qual (aaC st) s.heap.objs.size f cdv))->sp vs H Q E->
   ∃t,PSs (aiX CX0 P w K mg base N qual (aaC st) f cdv A outer s H E).nox (aaU st) t/\t {nx:=fun _ H'=>Q .non H',rt:=Q} (start N vs) H):FnOk P w K mg base CX0 (k+1) f fd ps sp:=by
 obtain⟨oc,od,kV,doc,pm,an,cdv,ct,osl,rfl,lk,hcd⟩:=F.ex
 refine ax9 lk hcd S len fun A outer s H vs Q E hr hsp=>?_
 obtain⟨t,h,q⟩:=hbody cdv A outer s H vs Q E hr hsp
 exact⟨t,h.nox,q⟩
theorem Fun.binds{x qual:Str}{st:Stmt}{f:Addr}{fd:FuncData}{ps:List Str}(F:Fun K x qual st f fd)
  (h:∀(kV doc pm:Value) (an:Option Addr) (cdv ct:Value) (us:List Value),us.length=ps.length->bindArgs (PySem.W.fnOf x qual (aa7 st) (aaU st) (aaC st) .none kV doc pm an cdv ct) ⟨us,[]⟩=pure (ps.zip us)):Binds K fd ps []:=by
 obtain⟨oc,od,kV,doc,pm,an,cdv,ct,osl,rfl,lk,hcd⟩:=F.ex
 exact .all (h kV doc pm an cdv ct)
theorem apT{x qual:Str}{st:Stmt}{f:Addr}{oc:Value}{od an:Option Addr}{osl:Array (Option Value)}{kV doc pm cdv ct:Value}(l:K.lookup f=some ⟨oc,od,.func (PySem.W.fnOf x qual (aa7 st) (aaU st) (aaC st) .none kV doc pm an cdv ct),osl⟩)
  (c:PySem.W.codeIn K cdv qual=true) (k:PySem.W.keepIn K (.ref f)=true):Fun K x qual st f (PySem.W.fnOf x qual (aa7 st) (aaU st) (aaC st) .none kV doc pm an cdv ct):=⟨⟨oc,od,kV,doc,pm,an,cdv,ct,osl,rfl,l,c⟩,k⟩
end
section
variable{X:Cx}
end
theorem aa5{A B:Prop}(h:B):if false=true then A else B:=by
 rw[if_neg a9]
 exact h
theorem aa2{A B:Prop}(h:A):if true=true then A else B:=by
 rw[if_pos rfl]
 exact h
theorem aFV{c A B:Prop}[Decidable c](h1:c->A)(h2:¬c->B):if c then A else B:=by
 by_cases h:c
 ·rw[if_pos h]
  exact h1 h
 ·rw[if_neg h]
  exact h2 h
noncomputable def Same(H H':Hp):Prop:=∀b o,H b=some o->H' b=some o
theorem Same.refl(H:Hp):Same H H:=fun _ _ h=>h
theorem Same.trans{H H1 H2:Hp}(a:Same H H1)(b:Same H1 H2):Same H H2:=fun c o h=>b c o (a c o h)
theorem Same.free{H H':Hp}(e:Same H H'){l:Addr}(h:H' l=Option.none):H l=Option.none:=by
 cases q:H l with
 |none=>rfl
 |some o=>
  rw[e l o q] at h
  cases h
theorem Same.seq{K:FG}{H H':Hp}{a:Addr}{xs:List V}(e:Same H H')(h:SqL K H a xs):SqL K H' a xs:=by
 rcases h with (h | ⟨o,h⟩) | h
 ·exact .inl (.inl (e _ _ h))
 ·exact .inl (.inr ⟨o,e _ _ h⟩)
 ·exact .inr h
section
variable{X:Cx}
end
structure Df(P:Program)(w:World)(K:FG)(mg:Str->Option Value)(base:Heap)(x:Str)(k:Nat)(ps:List Str)(sp:Sp):Prop where
 ex:∃(f:Addr) (fd:FuncData),FnOk P w K mg base CX0 k f fd ps sp/\Binds K fd ps []/\mg x=some (.ref f)/\PySem.W.keepIn K (.ref f)=true
structure Fn(K:FG)(mg:Str->Option Value)(x:Str)(st:Stmt)(ps:List Str):Prop where
 ex:∃(f:Addr) (fd:FuncData),Fun K x x st f fd/\Binds K fd ps []/\mg x=some (.ref f)
section
variable{P:Program}{w:World}{K:FG}{mg:Str->Option Value}{base:Heap}{x:Str}{st:Stmt}{ps N:List Str}{k:Nat}{sp:Sp}
theorem Fn.df(F:Fn K mg x st ps)(S:FnScope N ps (aaC st))(len:∀vs H Q E,sp vs H Q E->vs.length=ps.length)
  (hbody:∀(f:Addr) (cdv:Value) (A:Around) (outer:List Env) (s:Shared) (H:Hp) (vs:List V) (Q:VK) (E:XK),Room k (A.deeper (envOfC x (aaC st) s.heap.objs.size f cdv))->sp vs H Q E->
   ∃t,PSs (aiX CX0 P w K mg base N x (aaC st) f cdv A outer s H E).nox (aaU st) t/\t {nx:=fun _ H'=>Q .non H',rt:=Q} (start N vs) H):Df P w K mg base x (k+1) ps sp:=by
 obtain⟨f,fd,F1,hb,hm⟩:=F.ex
 exact⟨⟨f,fd,F1.ok S len (hbody f),hb,hm,F1.kp⟩⟩
theorem aaK{h:Heap}{f:Addr}{oc:Value}{od an:Option Addr}{osl:Array (Option Value)}{kV doc pm cdv ct:Value}(X:K.In h)(G:h.Ns mainGlobals mg)
  (a:PySem.W.nsIn K mainGlobals x=some (some (.ref f))) (l:K.lookup f=some ⟨oc,od,.func (PySem.W.fnOf x x (aa7 st) (aaU st) (aaC st) .none kV doc pm an cdv ct),osl⟩)
  (c:PySem.W.codeIn K cdv x=true) (k:PySem.W.keepIn K (.ref f)=true)
  (hb:∀(kV doc pm:Value) (an:Option Addr) (cdv ct:Value) (us:List Value),us.length=ps.length->bindArgs (PySem.W.fnOf x x (aa7 st) (aaU st) (aaC st) .none kV doc pm an cdv ct) ⟨us,[]⟩=pure (ps.zip us)):Fn K mg x st ps:=by
 have F:=apT (st:=st) l c k
 exact⟨⟨f,_,F,F.binds (ps:=ps) hb,PySem.W.mg_of X G a⟩⟩
end
section
variable{X:Cx}
theorem ay7{x:Str}{k k':Nat}{ps:List Str}{sp:Sp}{e:Expr}{es:List Expr}{t:TA}{p pos:Pos}(D:Df X.prog X.w X.K X.mg X.base x k ps sp)(hr:Room k' X.A)(ha:PA X (e::es) t)(hk:k<=k':=by decide)(hg:Gl X x:=by rfl)
  (hdb:(x==("__debug__":Str))=false:=by decide) (he:starEach (e::es) X.env=(false,eval e X.env)::starEach es X.env:=by rfl) (hpl:(backTo pos (starEach es X.env)).any (·.1)=false:=by rfl):
  PE X (.Call (.Name x p) (e::es) [] pos) (anL sp [] E0 t):=by
 obtain⟨f,fd,F,hb,hm,kp⟩:=D.ex
 exact aBF F (hr.mono hk) hg hm kp hb .nil ajW ha hdb he hpl
end
theorem aaB{H:Hp}{p:Addr}(h:H p=none)(o:HO):Same H (upd H p o):=fun b u q=>by rw[aaF (aaI q h)];exact q
theorem int_eq{a b:Int}:(V.int a=V.int b)↔a=b:=⟨fun h=>V.int.inj h,fun h=>by rw[h]⟩
theorem ifI{a b:Int}{A B:Prop}(h1:a=b->A)(h2:¬a=b->B):if decide (V.int a=V.int b)=true then A else B:=
 aFV (fun c=>h1 (int_eq.mp (dP c))) (fun c=>h2 fun e=>c (dQ (int_eq.mpr e)))
theorem asQ{a b:Int}{A B:Prop}(h1:¬a=b->A)(h2:a=b->B):if (!decide (V.int a=V.int b))=true then A else B:=by
 by_cases e:a=b
 ·rw[dQ (int_eq.mpr e)];exact aa5 (h2 e)
 ·rw[dU fun q=>e (int_eq.mp q)];exact aa2 (h1 e)
theorem ifD{c:Prop}[Decidable c]{A B:Prop}(h1:c->A)(h2:¬c->B):if decide c=true then A else B:=
 aFV (fun q=>h1 (dP q)) (fun q=>h2 fun e=>q (dQ e))
theorem ifNe{a b:Int}{A B:Prop}(e:a=b)(h:B):if (!decide (V.int a=V.int b))=true then A else B:=by
 rw[dQ (int_eq.mpr e)];exact aa5 h
noncomputable def ap7:Expr->Option Int
 |.Constant (.int i) _ _=>some i
 |_=>none
noncomputable def aCR(is:List Int):TA:=fun _ H Q=>Q (is.map V.int) H
theorem avD{X:Cx}:∀{es:List Expr} (is:List Int),es.map ap7=is.map some->PA X es (aCR is)
 |[],[],_=>aeT
 |[],_::_,h=>by cases h
 |_::_,[],h=>by cases h
 |e::es,i::is,h=>by
  have h1:ap7 e=some i:=(List.cons.inj h).1
  have h2:es.map ap7=is.map some:=(List.cons.inj h).2
  obtain⟨j,pos,rfl⟩:∃j pos,e=.Constant (.int i) j pos:=by
   unfold ap7 at h1
   split at h1
   ·cases h1
    exact⟨_,_,rfl⟩
   ·cases h1
  exact ac4 axS (avD is h2)
structure Clos(X:Cx)(scope:Scope)(cl:List (Str×Addr)):Prop where
 is:closureFor scope X.env=pure cl
 sub:∀y c,cl.lookup y=some c->X.env.cells.lookup y=some c
 has:∀y,scope.names.lookup y=some .free->∃c,cl.lookup y=some c
 nocell:∀y∈scope.names,y.2≠ .cell
 kind:scope.kind=.function
 names:∀y∈scope.names,y.2=.local->scope.names.lookup y.1=some .local
noncomputable def aaO(X:Cx)(N:List Str)(scope:Scope)(cl:List (Str×Addr))(C:Addr)(ex:List Addr)(pins:List (Addr×Obj))(s:Shared)(H:Hp):Cx:=
 {X with N:=N,s₀:=s,H₀:=H,env:=compEnvC scope cl C X.env,outer:=X.stack,stack:=X.stack,ex:=ex,fn:=fun _=>false,pn:=X.pn++pins,xe:=fun _ _=>False}
noncomputable def aa4(js:List Nat)(σ:St):St:=js.map fun j=>(σ[j]?).getD none
noncomputable def auB(ifs:List Expr)(env:Env):Sem Bool:=
 forIn ifs true fun c r=>if r=true then (do let ok ←isTrue c env (eval c env);pure (ForInStep.yield ok)) else pure (ForInStep.yield r)
noncomputable def PF(X:Cx)(ifs:List Expr)(t:TT):Prop:=
 ∀(pins:List (Addr×Obj)) (s:Shared) (σ:St) (H:Hp) (Q:Bool->Hp->Prop),Inv X pins σ H s->t σ H Q->
  wpAny (model X.prog X.w) X.A (auB ifs X.env) (TP X pins σ Q) X.xe s
noncomputable def aI2:TT:=fun _ H Q=>Q true H
theorem aFZ{X:Cx}:PF X [] aI2:=fun _ _ _ H _ I h=>wpAny_tests_nil ⟨H,I,h⟩
theorem aEU{X:Cx}{c:Expr}{t:TT}(h:PT X c t):PF X [c] t:=fun pins s σ H Q I q=>wpAny_tests_one (h pins s σ H Q I q)
noncomputable def avF(J:It)(js:List Nat)(σ:St)(tt:TT)(te:TE)(Q:VK)(H1:Hp):Prop:=∀D,H1 D=none->∃W:Nat->Nat->Hp->Prop,(∃m,W 0 m (upd H1 D (.lst [])))/\∀i m H2,W i m H2->
 (J.stop i H2/\Q (.ref D) H2)∨(J.go i H2/\∀v H3,J.yld i H2 v H3->tt (some v::aa4 js σ) H3 fun b H4=>if b=true then
  te (some v::aa4 js σ) H4 fun y H5=>∃ys,H5 D=some (.lst ys)/\ys.length<sizeLine/\∃m',m'<m/\W (i+1) m' (upd H5 D (.lst (ys++[y])))
  else ∃m',m'<m/\W (i+1) m' H4)
noncomputable def ay1(wi:TI)(js:List Nat)(tt:TT)(te:TE):TE:=fun σ H Q=>wi σ H fun J H1=>avF J js σ tt te Q H1
noncomputable def apI(env:Env)(n:Str)(k:NameKind):NameKind:=if (k==NameKind.free&&env.scope.kind== .function&&env.kindOf n==some .cell) then .cell else k
theorem aAH{env:Env}{n:Str}{k:NameKind}:(if (k==NameKind.free&&env.scope.kind== .function&&env.kindOf n==some .cell) then (n,NameKind.cell) else (n,k))=(n,apI env n k):=by
 unfold apI
 split<;>rfl
theorem aeC{env:Env}:∀(names:List (Str×NameKind)) (x:Str),(relabel {kind:=.function,names:=names,isGenerator:=false,isCoroutine:=false} env).names.lookup x=(names.lookup x).map (apI env x)
 |[],_=>rfl
 |(n,k)::r,x=>by
  have ih:=aeC (env:=env) r x
  unfold relabel at ih ⊢
  dsimp only at ih ⊢
  rw[bC]
  dsimp only
  rw[aAH,c7,c7,ih]
  cases hx:x==n with
  |true=>
   have e:x=n:=by simpa using hx
   rw[e]
   rfl
  |false=>rfl
theorem adE{env:Env}(scope:Scope)(x:Str):(relabel scope env).names.lookup x=(scope.names.lookup x).map (apI env x):=aeC scope.names x
theorem am1{env:Env}{x:Str}{o:Option NameKind}(hc:o≠some .cell)(h:o.map (apI env x)=some .cell∨o.map (apI env x)=some .free):o=some .free:=by
 cases o with
 |none=>rcases h with h | h<;>cases h
 |some k=>
  by_cases e:k=.free
  ·rw[e]
  ·have z:apI env x k=k:=by
    unfold apI
    have e':(k==NameKind.free)=false:=by simpa using e
    rw[e']
    rfl
   rw[c8,z] at h
   rcases h with h | h
   ·exact absurd h hc
   ·exact h
theorem agJ{env:Env}{scope:Scope}{x:Str}(h:scope.names.lookup x=some .free):(relabel scope env).names.lookup x=some .cell∨(relabel scope env).names.lookup x=some .free:=by
 rw[adE,h,c8]
 unfold apI
 split
 ·exact .inl rfl
 ·exact .inr rfl
section
variable{X:Cx}{elt iter:Expr}{x:Str}{px pos:Pos}{ifs:List Expr}{scope:Scope}{cl:List (Str×Addr)}{N':List Str}{js:List Nat}{tt:TT}{te:TE}
theorem asV{pins:List (Addr×Obj)}{σ:St}{H:Hp}{s s4:Shared}{fp:List Addr}{C:Addr}{m4:Str->Option Value}(hcl:Clos X scope cl)(hN:js.map (fun j=>X.N[j]?)=N'.map some)
  (hk:N'.all (fun y=>(X.env.kindOf y==some .cell)||(X.env.kindOf y==some .free))=true) (hf:N'.all (fun y=>scope.names.lookup y==some .free)=true)
  (I:Inv X pins σ H s) (hfp:∀b∈fp,adN X pins H b/\b<s.heap.objs.size) (hC:C=s.heap.objs.size) (ho:s4.os=s.os) (hg:s4.gens=s.gens) (hkeep:∀b o,s.heap.get? b=some o->s4.heap.get? b=some o) (hn:s4.heap.Ns C m4):
  Inv (aaO X (x::N') scope cl C fp pins s H) [] (none::aa4 js σ) H s4:=by
 have hne:∀b o,s.heap.get? b=some o->b≠C:=fun b o e=>by rw[hC];exact aX (aS e)
 refine⟨⟨I.ok.mod,hcl.kind,I.ok.glob,I.ok.blt,Nat.le_of_eq hC.symm,fun y z c h1 h2=>I.ok.inj y z c (hcl.sub y c h1) (hcl.sub z c h2),fun y hy=>hcl.has y (am1 (fun z=>hcl.nocell _ (PySem.mem_of_lookup z) rfl) (by rw[←adE];exact hy)),fun y c h _=>(nomatch h),I.ok.hd,I.ok.frames,.inl rfl,fun b hb=>⟨?_,fun y c e=>(hfp b hb).1.2.2.2.2.1 y c (hcl.sub y c e)⟩,
  I.bs,bE I.ok.bsz I.sz,fun b o e hb=>?_,fun b hb hz=>?_,I.stack,I.stkFree⟩,ho,by rw[hg];exact I.bare,Un.kept hkeep,⟨m4,hn,fun i y v h1 h2 h3=>?_⟩,fun y c e=>?_,?_,fun y c e=>I.freeC y c (hcl.sub y c e),fun p hp=>?_,I.hok.kept hkeep,?_⟩
 ·rw[hC];exact aX (hfp b hb).2
 ·rcases (hfp b hb).1.2.2.2.1 with z | z
  ·exact I.ok.noex b o e z
  ·exact absurd (aY (aS e) (bE I.ok.bsz z)) (cD _)
 ·rcases aW.mp (I.stkSub b hz) with z | z
  ·exact (hfp b hb).1.2.1 z
  ·exact (hfp b hb).1.2.2.1 z
 ·match i,h1,h2 with
  |0,_,h2=>exact nomatch h2
  |i+1,h1,h2=>
   have h1:N'[i]? =some y:=h1
   have h2:(aa4 js σ)[i]? =some (some v):=h2
   have hy:y∈N':=bL h1
   have q:(js.map (fun j=>X.N[j]?))[i]? =some (some y):=by rw[hN,bF,h1];rfl
   rw[bF] at q
   cases ej:js[i]? with
   |none=>rw[ej] at q;cases q
   |some j=>
    rw[ej] at q
    have q:X.N[j]? =some y:=a8 q
    unfold aa4 at h2
    rw[bF,ej] at h2
    have h2:(σ[j]?).getD none=some v:=a8 h2
    have h2:σ[j]? =some (some v):=by
     cases e:σ[j]? with
     |none=>rw[e] at h2;cases h2
     |some o=>rw[e] at h2;exact congrArg some h2
    have kk:=bV.mp hk y hy
    have kk:X.env.kindOf y=some .cell∨X.env.kindOf y=some .free:=by simpa using kk
    have ff:=bV.mp hf y hy
    have ff:scope.names.lookup y=some .free:=by simpa using ff
    obtain⟨m,_,hl⟩:=I.loc
    obtain⟨u,r,l⟩:=hl j y v q h2 (by rcases kk with z | z;exact .inr (.inl z);exact .inr (.inr z))
    refine⟨u,r,.inr ⟨agJ ff,?_⟩⟩
    obtain⟨c,hc⟩:=hcl.has y ff
    rcases l with ⟨z,_⟩ | ⟨_,c',e',cell⟩
    ·rcases kk with k | k<;>(rw[k] at z;cases z)
    ·rw[hcl.sub y c hc] at e'
     cases e'
     exact⟨c,hc,cell.keeps hkeep⟩
 ·obtain⟨v,q⟩:=I.cell y c (hcl.sub y c e)
  exact⟨v,q.keeps hkeep⟩
 ·show H C=none
  rw[hC]
  exact I.hok.fresh (aQ _)
 ·have hp:p∈X.pn++pins:=by
   have hp:p∈(X.pn++pins)++[]:=hp
   rwa [cJ] at hp
  obtain⟨e,n,ne,nf,d⟩:=I.pin p hp
  refine⟨hkeep _ _ e,n,hne _ _ e,fun z=>?_,d⟩
  rcases aW.mp (I.stkSub p.1 z) with z | z
  ·exact ne z
  ·exact nf z
 ·show (aa4 js σ).length+1=N'.length+1
  have q:=congrArg List.length hN
  rw[aR,aR] at q
  unfold aa4
  rw[aR,q]
end
theorem ak9{prog:Program}{w:World}{A:Around}{R:Result->Shared->Prop}{s:Shared}{elt tg iter:Expr}{ifs:List Expr}{scope:Scope}{pos:Pos}{it acc:Value}{env:Env}{EN:Value->Shared->Prop}
  (hEN:EN=notedBy (model prog w) A env fun e s'=>R (.error e) s') (B:Nat->Shared->Prop)
  (turn:∀n s,B n s->wpAny (model prog w) A (pyNext it) (fun r s₁=>match r with
   |none=>R (.ok .next) s₁
   |some v=>wpAny (model prog w) A (letOwnedTupleGo tg it v) (fun _ s₂=>wpAny (model prog w) A (assign tg env v) (fun _ s₃=>
     wpAny (model prog w) A (auB ifs env) (fun ok s₄=>
      if ok=true then wpAny (model prog w) A (eval elt env) (fun z s₅=>wpAny (model prog w) A (call (.builtin "list.append") [acc,z]) (fun _ s₆=>∃m,m<n/\B m s₆) EN s₅) EN s₄
      else ∃m,m<n/\B m s₄) EN s₃) EN s₂) EN s₁) EN s) (n:Nat) (h:B n s):
  codeAny (model prog w) A (.compLoop (.ListComp elt [⟨tg,iter,ifs,0⟩] scope pos) 0 it acc env) R s:=by
 subst hEN
 refine codeAny_loop rfl B (fun n s hI=>?_) n h
 refine wpAny_noted (m:=compTurn (.ListComp elt [⟨tg,iter,ifs,0⟩] scope pos) 0 it acc env) ?_
 rw[compTurn_list]
 refine dJ (wpAny_standAt (dJ (dM (turn n s hI) (fun r s₁ h₁=>?_) fun _ _ z=>z)))
 cases r with
 |none=>exact dX h₁
 |some v=>
  refine dJ (dM h₁ (fun _ s₂ h₂=>?_) fun _ _ z=>z)
  refine dJ (dM h₂ (fun _ s₃ h₃=>?_) fun _ _ z=>z)
  refine dJ (dM h₃ (fun ok s₄ h₄=>?_) fun _ _ z=>z)
  cases ok with
  |false=>exact dX ⟨rfl,h₄⟩
  |true=>
   refine dJ (dJ (dM h₄ (fun z s₅ h₅=>?_) fun _ _ q=>q))
   exact dJ (dM h₅ (fun _ s₆ h₆=>dX (dX ⟨rfl,h₆⟩)) fun _ _ q=>q)
section
variable{X:Cx}{elt iter:Expr}{x:Str}{px pos:Pos}{ifs:List Expr}{scope:Scope}{cl:List (Str×Addr)}{N':List Str}{js:List Nat}{tt:TT}{te:TE}
theorem axJ{pins:List (Addr×Obj)}{σ σ':St}{H H':Hp}{s s':Shared}{fp:List Addr}{C:Addr}(I:Inv X pins σ H s)(hfp:∀b∈fp,adN X pins H b)(J:Inv (aaO X (x::N') scope cl C fp pins s H) [] σ' H' s'):Inv X pins σ H' s':=
 I.call' (ch:=fp) J.os J.base J.hok J.bare fun b hb=>⟨(hfp b hb).2.2.2.1,(hfp b hb).2.1,(hfp b hb).2.2.2.2.1,(hfp b hb).2.2.2.2.2⟩
theorem akP{pins:List (Addr×Obj)}{σ:St}{H:Hp}{s:Shared}{Q:VK}{RR:Value->Addr->Result->Shared->Prop}{J:It}{fp:List Addr}{it:Addr}{tn:Nat->Heap->Prop}
  (hcl:Clos X scope cl) (hx:scope.names.lookup x=some .local) (hnd:(x::N').Nodup) (hN:js.map (fun j=>X.N[j]?)=N'.map some)
  (hk:N'.all (fun y=>(X.env.kindOf y==some .cell)||(X.env.kindOf y==some .free))=true) (hf:N'.all (fun y=>scope.names.lookup y==some .free)=true) (hc:X.calm=true)
  (ht:∀(C:Addr) (ex:List Addr) (pins:List (Addr×Obj)) (s:Shared) (H:Hp),PF (aaO X (x::N') scope cl C ex pins s H) ifs tt)
  (he:∀(C:Addr) (ex:List Addr) (pins:List (Addr×Obj)) (s:Shared) (H:Hp),PE (aaO X (x::N') scope cl C ex pins s H) elt te)
  (I:Inv X pins σ H s) (T:Turn X.prog X.w X.K (.Name x px) J fp it tn) (st:tn 0 s.heap) (hfp:∀b∈fp,adN X pins H b)
  (q:∀D,H D=none->∃W:Nat->Nat->Hp->Prop,(∃m,W 0 m (upd H D (.lst [])))/\∀i m H2,W i m H2->
   (J.stop i H2/\Q (.ref D) H2)∨(J.go i H2/\∀v H3,J.yld i H2 v H3->tt (some v::aa4 js σ) H3 fun b H4=>if b=true then
    te (some v::aa4 js σ) H4 fun y H5=>∃ys,H5 D=some (.lst ys)/\ys.length<sizeLine/\∃m',m'<m/\W (i+1) m' (upd H5 D (.lst (ys++[y])))
    else ∃m',m'<m/\W (i+1) m' H4))
  (hRR:∀(D C:Addr) (s':Shared) (H':Hp) (m:Str->Option Value),Inv X pins σ H' s'->H' C=none->C≠X.env.locals->X.s₀.heap.objs.size<=C->(∀y c,X.env.cells.lookup y=some c->c≠C)->(∀p∈X.pn++pins,p.1≠C)->s'.heap.Ns C m->Q (.ref D) H'->RR (.ref D) C (.ok .next) s'):
  wpAny (model X.prog X.w) X.A (newList []) (fun acc s₃=>wpAny (model X.prog X.w) X.A (newFunctionEnv scope X.env.globals cl [] X.env.qual none .none (some X.env)) (fun cenv s₄=>
   codeAny (model X.prog X.w) X.A (.compStart (.ListComp elt [⟨.Name x px,iter,ifs,0⟩] scope pos) 0 (.ref it) acc {cenv with scope:=relabel scope X.env}) (RR acc cenv.locals) s₄) X.xe s₃) X.xe s:=by
 refine wpAny_newObj_type ?_
 have hD:H s.heap.objs.size=none:=I.hok.fresh (aQ _)
 have I3:Inv X pins σ (upd H s.heap.objs.size (.lst [])) {s with heap:=s.heap.push {cls:=.type "list",dict:=none,data:=.seq ([]:List Value).toArray} }:=I.lnew (its:=[]) (t':=s.toks) .nil (bO _)
 have hfp3:∀b∈fp,adN X pins (upd H s.heap.objs.size (.lst [])) b/\b<(s.heap.push {cls:=.type "list",dict:=none,data:=.seq ([]:List Value).toArray}).objs.size:=fun b hb=>by
  obtain⟨o,ho,_⟩:=T.obj 0 _ st b hb
  have hlt:=aS ho
  obtain⟨f0,f1⟩:=hfp b hb
  exact⟨⟨by rw[aaF (aX hlt)];exact f0,f1⟩,by rw[Heap.size_push];exact Nat.lt_succ_of_lt hlt⟩
 have st3:tn 0 (s.heap.push {cls:=.type "list",dict:=none,data:=.seq ([]:List Value).toArray}):=T.keep _ _ _ st fun b _ o e=>aZ _ e
 obtain⟨W,⟨m0,w0⟩,turn⟩:=q s.heap.objs.size hD
 generalize hs3:({s with heap:=s.heap.push {cls:=.type "list",dict:=none,data:=.seq ([]:List Value).toArray} }:Shared)=s3 at I3 ⊢
 have hh3:s.heap.push {cls:=.type "list",dict:=none,data:=.seq ([]:List Value).toArray}=s3.heap:=by rw[←hs3]
 rw[hh3] at hfp3 st3
 generalize s.heap.objs.size=D at I3 hfp3 w0 turn hD ⊢
 generalize upd H D (.lst [])=H3 at I3 hfp3 w0
 refine wpAny_newFunctionEnv hcl.nocell (by intro y hy;simp at hy) (fun h₁ hns₁ hsb₁=>?_) hcl.kind
 have hkeep:∀b o,s3.heap.get? b=some o->h₁.get? b=some o:=fun b o e=>hsb₁.extBut b o (aX (aS e)) (aZ _ e)
 have J4:Inv (aaO X (x::N') scope cl s3.heap.objs.size fp pins s3 H3) [] (none::aa4 js σ) H3 {s3 with heap:=h₁,toks:=s3.toks+([]:List (Str×Value)).length}:=
  asV hcl hN hk hf I3 hfp3 rfl rfl rfl hkeep hns₁
 have st4:tn 0 h₁:=T.keep _ _ _ st3 fun b _ o e=>hkeep b o e
 have cell':∀{s':Shared} {σ':St} {H':Hp},Inv (aaO X (x::N') scope cl s3.heap.objs.size fp pins s3 H3) [] σ' H' s'->Q (.ref D) H'->RR (.ref D) s3.heap.objs.size (.ok .next) s':=fun {s' σ' H'} J hq=>by
  obtain⟨m,hn,_⟩:=J.loc
  refine hRR D _ s' H' m (axJ I3 (fun b hb=>(hfp3 b hb).1) J) J.free (Nat.ne_of_gt I3.lt) I3.sz (fun y c e z=>?_) (fun p hp z=>?_) hn hq
  ·obtain⟨v,k⟩:=I3.cell y c e
   exact absurd k.lt (by rw[z];exact cD _)
  ·exact absurd (aS (I3.pin p hp).1) (by rw[z];exact cD _)
 have fpX:∀{H':Hp},(∀b∈fp,H' b=none)->∀b∈fp,adN (aaO X (x::N') scope cl s3.heap.objs.size fp pins s3 H3) [] H' b:=fun {H'} hn b hb=>by
  obtain⟨⟨f0,f1,f2,f3,f4,f5⟩,flt⟩:=hfp3 b hb
  refine⟨hn b hb,aX flt,fun z=>?_,.inl hb,fun y c e=>f4 y c (hcl.sub y c e),fun p hp=>?_⟩
  ·rcases aW.mp (I3.stkSub b z) with z | z
   ·exact f1 z
   ·exact f2 z
  ·have hp:p∈(X.pn++pins)++[]:=hp
   rw[cJ] at hp
   exact f5 p hp
 have loop:∀s₄:Shared,s₄={s3 with heap:=h₁,toks:=s3.toks+([]:List (Str×Value)).length}->
   codeAny (model X.prog X.w) X.A (.compLoop (.ListComp elt [⟨.Name x px,iter,ifs,0⟩] scope pos) 0 (.ref it) (.ref D) (compEnvC scope cl s3.heap.objs.size X.env)) (RR (.ref D) s3.heap.objs.size) s₄:=by
  rintro s₄ rfl
  refine ak9 rfl (fun n s'=>∃i σ0 H',Inv (aaO X (x::N') scope cl s3.heap.objs.size fp pins s3 H3) [] (σ0::aa4 js σ) H' s'/\tn i s'.heap/\(∀b∈fp,H' b=none)/\W i n H') ?_ m0 ⟨0,none,H3,J4,st4,fun b hb=>(hfp3 b hb).1.1,w0⟩
  rintro n s5 ⟨i,σ0,H5,J5,st5,fr5,w5⟩
  rcases turn i n H5 w5 with ⟨stop,qn⟩ | ⟨go,step⟩
  ·refine dM (T.done (aaO X (x::N') scope cl s3.heap.objs.size fp pins s3 H3) rfl rfl rfl hc i [] s5 _ H5 (fun _ _=>False) J5 (fpX fr5) st5 stop) (fun r s6 ⟨hr,J6⟩=>?_) fun _ _ z=>z.elim
   subst hr
   exact cell' J6 qn
  ·refine dM (T.item (aaO X (x::N') scope cl s3.heap.objs.size fp pins s3 H3) rfl rfl rfl hc i [] s5 _ H5 (fun _ _=>False) J5 (fpX fr5) st5 go) (fun r s6 ⟨u,hr,h6⟩=>?_) fun _ _ z=>z.elim
   subst hr
   refine dM h6 (fun _ s6' h6'=>?_) fun _ _ z=>z.elim
   obtain⟨v,H6,J6,r6,y6,st6,fr6⟩:=h6'
   clear h6
   have J6':=J6.pinned (fpX fr6) (T.obj _ _ st6)
   show wpAny _ _ (assign (.Name x px) _ u) _ _ _
   refine wpAny_assign_Name (aeH (i:=0) J6' hnd rfl (.inl (lookup_relabel_local hx)) r6 (fun s7 J7=>?_) (.inr (lookup_relabel_local hx)))
   have J7:Inv (aaO X (x::N') scope cl s3.heap.objs.size fp pins s3 H3) ([]++agE fp s6'.heap) (some v::aa4 js σ) H6 s7:=J7
   have again:∀{σ8:St} {H8:Hp} {s8:Shared},Inv (aaO X (x::N') scope cl s3.heap.objs.size fp pins s3 H3) ([]++agE fp s6'.heap) σ8 H8 s8->tn (i+1) s8.heap/\∀b∈fp,H8 b=none:=fun {σ8 H8 s8} J8=>by
    refine⟨T.keep _ _ _ st6 fun b hb o e=>(J8.pin (b,o) (bP _ (bP _ (ab4 hb e)))).1,fun b hb=>?_⟩
    obtain⟨o,e,d⟩:=T.obj _ _ st6 b hb
    exact (J8.pin (b,o) (bP _ (bP _ (ab4 hb e)))).2.1
   refine dM (ht _ _ _ _ _ _ s7 _ H6 _ J7 (step v H6 y6)) (fun ok s8 ⟨H8,J8,q8⟩=>?_) fun _ _ z=>z.elim
   cases ok with
   |false=>
    obtain⟨m',hm,w8⟩:=(show ∃m',m'<n/\W (i+1) m' H8 from q8)
    obtain⟨a1,a2⟩:=again J8
    exact⟨m',hm,i+1,some v,H8,J8.unpinned,a1,a2,w8⟩
   |true=>
    refine dM (he _ _ _ _ _ _ s8 _ H8 _ J8 q8) (fun y s9 ⟨z,H9,J9,r9,ys,hys,hlen,m',hm,w9⟩=>?_) fun _ _ z=>z.elim
    refine dM (ahT (X:=aaO X (x::N') scope cl s3.heap.objs.size fp pins s3 H3) _ s9 _ H9 (.ref D) [z] (.ref D) [y] (fun _ H10=>H10=upd H9 D (.lst (ys++[z]))) J9 rfl (.cons r9 .nil) ⟨D,ys,z,rfl,rfl,hys,hlen,rfl⟩) (fun _ s10 ⟨_,H10,J10,_,e10⟩=>?_) fun _ _ z=>z.elim
    subst e10
    obtain⟨a1,a2⟩:=again J10
    exact⟨m',hm,i+1,some v,_,J10.unpinned,a1,a2,w9⟩
 exact codeAny_compStart_list (loop _ rfl) (T.self _ 0 _ _ _ st4 (loop _ rfl))
theorem aBZ{wi:TI}(hcl:Clos X scope cl)(hx:scope.names.lookup x=some .local)(hnd:(x::N').Nodup)(hN:js.map (fun j=>X.N[j]?)=N'.map some)
  (hk:N'.all (fun y=>(X.env.kindOf y==some .cell)||(X.env.kindOf y==some .free))=true) (hf:N'.all (fun y=>scope.names.lookup y==some .free)=true) (hc:X.calm=true)
  (hi:PI X (.Name x px) iter wi)
  (ht:∀(C:Addr) (ex:List Addr) (pins:List (Addr×Obj)) (s:Shared) (H:Hp),PF (aaO X (x::N') scope cl C ex pins s H) ifs tt)
  (he:∀(C:Addr) (ex:List Addr) (pins:List (Addr×Obj)) (s:Shared) (H:Hp),PE (aaO X (x::N') scope cl C ex pins s H) elt te)
  (hs:∀x,foldedSetIterable iter X.env x=pure x:=by intro _;rfl):
  PE X (.ListComp elt [⟨.Name x px,iter,ifs,0⟩] scope pos) (ay1 wi js tt te):=by
 intro pins s σ H Q I h
 rw[eval_ListComp]
 refine wpAny_comprehension_free (use:=none) rfl hs hcl.is hcl.kind hcl.names (thn (hi pins s σ H _ I h) fun xv s₁ h₁=>thn h₁ fun itv s₂ h₂=>?_)
 obtain⟨it,fp,tn,J,H2,rfl,I2,T,st,hfp,q⟩:=h₂
 refine akP (RR:=fun acc C=>compPost (model X.prog X.w) X.A X.xe none (EP X pins σ Q) acc C) hcl hx hnd hN hk hf hc ht he I2 T st hfp q ?_
 intro D C s' H' m I' hC0 hCL hCs hCc hCp hn hq
 refine⟨m,hn,fun h' sb=>⟨.ref D,H',?_,rfl,hq⟩⟩
 exact I'.turned (t':=s'.toks) (fun b o hb e=>(sb.2 b hb).trans e) hC0 hCL (.inr hCs) hCc hCp
end
theorem af9(env:Env):∀(names:List (Str×NameKind)) (acc:List (Str×Addr)),names.all (fun y=>y.2 != .free||(env.cells.lookup y.1).isSome)=true->
  ∃cl:List (Str×Addr),(forIn (m:=Sem) names acc fun x r=>(do
   let (name,kind):=x
   if kind== .free then do let c ←cellOf env name;pure (ForInStep.yield ((name,c)::r)) else pure (ForInStep.yield r)))=(pure cl:Sem _)/\
   (∀y c,cl.lookup y=some c->env.cells.lookup y=some c∨acc.lookup y=some c)/\(∀y,(∃c,acc.lookup y=some c)->∃c,cl.lookup y=some c)/\(∀y,(y,NameKind.free)∈names->∃c,cl.lookup y=some c)
 |[],acc,_=>⟨acc,rfl,fun _ _ h=>.inr h,fun _ h=>h,fun _ h=>nomatch h⟩
 |(n,k)::r,acc,h=>by
  rw[List.all_cons,bJ] at h
  by_cases hk:k=.free
  ·subst hk
   have h1:(env.cells.lookup n).isSome=true:=by simpa using h.1
   obtain⟨c,hc⟩:=cY.mp h1
   obtain⟨cl,e,p1,p2,p3⟩:=af9 env r ((n,c)::acc) h.2
   refine⟨cl,?_,fun y c' hy=>?_,fun y hy=>?_,fun y hy=>?_⟩
   ·rw[←e]
    have q:cellOf env n=(pure c:Sem Addr):=by unfold cellOf;rw[hc]
    rw[List.forIn_cons]
    dsimp only
    rw[if_pos (show (NameKind.free==NameKind.free)=true from rfl),q]
    rfl
   ·rcases p1 y c' hy with z | z
    ·exact .inl z
    ·rw[c7] at z
     cases hyn:y==n with
     |true=>
      rw[hyn] at z
      have e1:y=n:=by simpa using hyn
      have e2:c=c':=by simpa using z
      rw[e1,←e2]
      exact .inl hc
     |false=>
      rw[hyn] at z
      exact .inr z
   ·refine p2 y ?_
    rw[c7]
    cases hyn:y==n with
    |true=>exact⟨c,rfl⟩
    |false=>exact hy
   ·rcases aW.mp hy with z | z
    ·refine p2 y ⟨c,?_⟩
     have e1:y=n:=(Prod.mk.inj z).1
     rw[e1,c7]
     simp
    ·exact p3 y z
  ·obtain⟨cl,e,p1,p2,p3⟩:=af9 env r acc h.2
   have hk':(k==NameKind.free)=false:=by simpa using hk
   refine⟨cl,?_,p1,p2,fun y hy=>?_⟩
   ·rw[←e]
    rw[List.forIn_cons]
    dsimp only
    rw[if_neg (by rw[hk'];exact a9)]
    rfl
   ·rcases aW.mp hy with z | z
    ·exact absurd (Prod.mk.inj z).2.symm hk
    ·exact p3 y z
theorem apZ{X:Cx}{scope:Scope}(h:scope.names.all (fun y=>y.2 != .free||(X.env.cells.lookup y.1).isSome)=true)(h2:scope.names.all (fun y=>y.2 != .cell)=true)(h3:scope.kind=.function)
  (h4:scope.names.all (fun y=>y.2 != .local||scope.names.lookup y.1==some .local)=true):∃cl,Clos X scope cl:=by
 obtain⟨cl,e,p1,p2,p3⟩:=af9 X.env scope.names [] h
 refine⟨cl,?_,fun y c hy=>?_,fun y hy=>p3 y (PySem.mem_of_lookup hy),fun y hy=>by simpa using bV.mp h2 y hy,h3,fun y hy hl=>?_⟩
 ·unfold closureFor
  exact Eq.trans (congrArg (fun t:Sem (List (Str×Addr))=>t >>=fun r=>(pure r:Sem (List (Str×Addr)))) e) rfl
 ·rcases p1 y c hy with z | z
  ·exact z
  ·simp at z
 ·have q:=bV.mp h4 y hy
  simpa [hl] using q
section
variable{js:List Nat}{σ:St}{tt:TT}{te:TE}{Q:VK}{H1:Hp}
theorem adF{lo:Int}{n:Nat}(R:Nat->List V->Prop)(hn:n<=sizeLine)(h0:R 0 [])
  (hs:∀(i:Nat) (l:List V) (D:Addr) (H2:Hp) (E:V->Hp->Prop) (F:Hp->Prop),i<n->R i l->H1 D=none->Same H1 H2->H2 D=some (.lst l)->(∀y H5,Same H2 H5->R (i+1) (l++[y])->E y H5)->(∀H4,Same H2 H4->R (i+1) l->F H4)->
   tt (some (.int (lo+i))::aa4 js σ) H2 fun b H4=>if b=true then te (some (.int (lo+i))::aa4 js σ) H4 E else F H4)
  (hd:∀(D:Addr) (H2:Hp) (l:List V),R n l->H1 D=none->Same H1 H2->H2 D=some (.lst l)->Q (.ref D) H2):avF (Itr lo n) js σ tt te Q H1:=by
 intro D hD
 refine⟨fun i m H2=>m=n-i/\i<=n/\Same H1 H2/\∃l,H2 D=some (.lst l)/\l.length<=i/\R i l,⟨n,by simp,bO _,aaB hD _,[],aaA,aQ _,h0⟩,?_⟩
 rintro i m H2 ⟨rfl,hi,s2,l,h2,hll,hR⟩
 by_cases hlt:i<n
 ·refine .inr ⟨hlt,fun v H3 y=>?_⟩
  obtain⟨e,ev⟩:=y
  subst e ev
  refine hs i l D _ _ _ hlt hR hD s2 h2 (fun z H5 s5 r5=>?_) (fun H4 s4 r4=>?_)
  ·refine⟨l,s5 _ _ h2,c9 hll (aY hlt hn),n-(i+1),by omega,rfl,hlt,fun b o hb=>?_,l++[z],aaA,by rw[aU,bM];omega,r5⟩
   rw[aaF (aaI hb hD)]
   exact s5 _ _ (s2 _ _ hb)
  ·exact⟨n-(i+1),by omega,rfl,hlt,s2.trans s4,l,s4 _ _ h2,by omega,r4⟩
 ·have e:i=n:=by omega
  subst e
  exact .inl ⟨aQ _,hd D H2 l hR hD s2 h2⟩
end
structure E(X:Cx)(e:Expr)(t:TE):Prop where
 h:PE X e t
structure T(X:Cx)(e:Expr)(t:TT):Prop where
 h:PT X e t
structure TW(X:Cx)(e:Expr)(t:TT):Prop where
 h:PW X e t
structure As(X:Cx)(es:List Expr)(t:TA):Prop where
 h:PA X es t
structure S(X:Cx)(st:Stmt)(t:TS):Prop where
 h:PS X st t
structure Ss(X:Cx)(sts:List Stmt)(t:TS):Prop where
 h:PSs X sts t
structure Il(X:Cx)(tg iter:Expr)(wi:TI):Prop where
 h:PI X tg iter wi
structure Gt(X:Cx)(tg:Expr)(t:TG):Prop where
 h:PG X tg t
structure Gts(X:Cx)(ts:List Expr)(t:TGs):Prop where
 h:PGs X ts t
structure Fs(X:Cx)(ifs:List Expr)(t:TT):Prop where
 h:PF X ifs t
structure Op2(X:Cx)(f:Value->Value->Sem Value)(r:R2):Prop where
 h:OpR X f r
structure Op1(X:Cx)(f:Value->Sem Value)(r:V->Hp->VK->Prop):Prop where
 h:UnR X f r
structure Cl1(X:Cx)(f:Value)(r:List V->Hp->VK->Prop):Prop where
 h:aeK X f r
structure Ixs(X:Cx)(r:R2):Prop where
 h:IxR X r
section
variable{X:Cx}{a b c e:Expr}{pos p:Pos}{ta tb tc te:TE}{t u:TT}{rest es:List Expr}{tA:TA}{op op':CmpOp}{r r':R2}{x:Str}
theorem v_(i:Nat)(hN:X.N[i]? =some x:=by rfl)(hv:Vis X.env.scope x:=by first | exact Or.inl rfl | exact Or.inr (Or.inl rfl) | exact Or.inr (Or.inr rfl))(hd:(x==("__debug__":Str))=false:=by decide)(hcd:(x==("__classdict__":Str))=false:=by decide):
  E X (.Name x pos) (aBG i):=⟨aF4 hN hv hd hcd⟩
theorem eI{i j}:E X (.Constant (.int i) j pos) (tC (.int i)):=⟨axS⟩
theorem eB{k j}:E X (.Constant (.bool k) j pos) (tC (.bl k)):=⟨aMK⟩
theorem eN{j}:E X (.Constant .none j pos) (tC .non):=⟨aD1⟩
theorem eS{z j}:E X (.Constant (.str z) j pos) (tC (.str z)):=⟨axE⟩
theorem eGl{v:V}{w':Value}(hm:X.mg x=some w')(q:RelV v w')(hg:Gl X x:=by rfl)(hd:(x==("__debug__":Str))=false:=by decide):E X (.Name x pos) (tC v):=⟨aBW hg hm q hd⟩
theorem eTy{n:String}(hm:X.mg x=none)(hv:bootBuiltins x=some (.type n))(hg:Gl X x:=by rfl)(hn:x≠"__name__":=by decide)(hd:(x==("__debug__":Str))=false:=by decide):E X (.Name x pos) (tC (.ty n)):=⟨aAE hg hm hv rfl hn hd⟩
theorem eOp{o:Operator}(ho:Op2 X (binaryOp o) r)(ha:E X a ta)(hb:E X b tb):E X (.BinOp a o b pos) (tOp r ta tb):=⟨aMM ho.h ha.h hb.h⟩
theorem eUn{o:UnaryOp}{r1:V->Hp->VK->Prop}(ho:Op1 X (unaryOp o) r1)(ha:E X a ta):E X (.UnaryOp o a pos) (tUn r1 ta):=⟨aKL ho.h ha.h⟩
theorem ad5(ho:Op2 X (compareOp op) r)(ha:E X a ta)(hb:E X b tb)(hm:behindInMarks op b=false:=by first | exact ay0 _ | rfl):E X (.Compare a [op] [b] pos) (tOp r ta tb):=⟨aAZ ho.h ha.h hb.h hm⟩
theorem eCh(ho:Op2 X (compareOp op) r)(ho':Op2 X (compareOp op') r')(ha:E X a ta)(hb:E X b tb)(hc:E X c tc)(hm:lastMarks [op,op'] [b,c]=false:=by with_unfolding_all rfl):E X (.Compare a [op,op'] [b,c] pos) (an2 r r' ta tb tc):=⟨azH ho.h ho'.h ha.h hb.h hc.h hm⟩
theorem tCh(ho:Op2 X (compareOp op) r)(ho':Op2 X (compareOp op') r')(ha:E X a ta)(hb:E X b tb)(hc:E X c tc)(hm:lastMarks [op,op'] [b,c]=false:=by with_unfolding_all rfl):T X (.Compare a [op,op'] [b,c] pos) (auK (an2 r r' ta tb tc)):=⟨axH ho.h ho'.h ha.h hb.h hc.h hm⟩
theorem ai9{o}(ha:E X a ta):E X (.BoolOp o [a] pos) ta:=⟨aEO ha.h⟩
theorem amW(ha:E X a ta)(hb:E X (.BoolOp .And (b::rest) pos) tb):E X (.BoolOp .And (a::b::rest) pos) (aDA ta tb):=⟨aGB ha.h hb.h⟩
theorem eOr(ha:E X a ta)(hb:E X (.BoolOp .Or (b::rest) pos) tb):E X (.BoolOp .Or (a::b::rest) pos) (aKV ta tb):=⟨aNO ha.h hb.h⟩
theorem ax0(ha:E X a ta):E X (.UnaryOp .Not a pos) (aCJ ta):=⟨aDU ha.h⟩
theorem eIf(hc:T X c t)(ha:E X a ta)(hb:E X b tb):E X (.IfExp c a b pos) (tIf t ta tb):=⟨azC hc.h ha.h hb.h⟩
theorem tCm(ho:Op2 X (compareOp op) r)(ha:E X a ta)(hb:E X b tb)(hm:behindInMarks op b=false:=by first | exact ay0 _ | rfl):T X (.Compare a [op] [b] pos) (auK (tOp r ta tb)):=⟨aBS ho.h ha.h hb.h hm⟩
theorem tNo(ha:T X a t):T X (.UnaryOp .Not a pos) (aKG t):=⟨aGA ha.h⟩
theorem tVa(ha:E X e te)(he:∀whole,isTrue e X.env whole=(do let v ←whole;standAt e.pos;holding [v] (truthy v)):=by intro _;rfl):T X e (L2.tB te):=⟨aEL ha.h he⟩
theorem ah9(ha:T X a t):TW X (.BoolOp .And [a] pos) t:=⟨aAD ha.h⟩
theorem afJ(ha:T X a t):TW X (.BoolOp .Or [a] pos) t:=⟨aEH ha.h⟩
theorem al0(ha:T X a t)(hb:TW X (.BoolOp .And (b::rest) pos) u):TW X (.BoolOp .And (a::b::rest) pos) (aNW t u):=⟨aF3 ha.h hb.h⟩
theorem wOr(ha:T X a t)(hb:TW X (.BoolOp .Or (b::rest) pos) u):TW X (.BoolOp .Or (a::b::rest) pos) (tOr t u):=⟨aH1 ha.h hb.h⟩
theorem tW(ha:TW X e t):T X e t:=⟨ha.h.pt⟩
theorem aN:As X [] agB:=⟨aeT⟩
theorem aC(ha:E X e te)(hr:As X es tA)(hs:starEach (e::es) X.env=(false,eval e X.env)::starEach es X.env:=by rfl):As X (e::es) (af1 te tA):=⟨ac4 ha.h hr.h hs⟩
theorem ayF(is:List Int)(h:es.map ap7=is.map some:=by rfl):As X es (aCR is):=⟨avD is h⟩
theorem aaW(ha:As X es tA):E X (.List es pos) (aOC tA):=⟨aFA ha.h⟩
theorem aaQ{k}(ha:As X es tA):E X (.Tuple es k pos) (aQI tA):=⟨aFY ha.h⟩
theorem eIx(hr:Ixs X r)(ha:E X a ta)(hb:E X b tb)(hs:avG b:=by intro _ _;rfl):E X (.Subscript a b pos) (tOp r ta tb):=⟨aJ3 hr.h ha.h hb.h hs⟩
theorem eD{k k':Nat}{ps:List Str}{sp:Sp}(D:Df X.prog X.w X.K X.mg X.base x k ps sp)(hr:Room k' X.A)(ha:As X (e::es) tA)(hk:k<=k':=by decide)(hg:Gl X x:=by rfl)
  (hdb:(x==("__debug__":Str))=false:=by decide) (he:starEach (e::es) X.env=(false,eval e X.env)::starEach es X.env:=by rfl) (hpl:(backTo pos (starEach es X.env)).any (·.1)=false:=by rfl):
  E X (.Call (.Name x p) (e::es) [] pos) (anL sp [] E0 tA):=⟨ay7 D hr ha.h hk hg hdb he hpl⟩
theorem eCB{id:String}{rc:List V->Hp->VK->Prop}(hc:Cl1 X (.builtin id) rc)(hm:X.mg x=none)(hv:bootBuiltins x=some (.builtin id))(ha:As X (e::es) tA)(hg:Gl X x:=by rfl)(hn:x≠"__name__":=by decide)(hdb:(x==("__debug__":Str))=false:=by decide)
  (he:starEach (e::es) X.env=(false,eval e X.env)::starEach es X.env:=by rfl) (hpl:(backTo pos (starEach es X.env)).any (·.1)=false:=by rfl):E X (.Call (.Name x p) (e::es) [] pos) (tCB rc tA):=⟨azA hc.h hg hm hv ha.h hn hdb he hpl⟩
theorem eCT{n:String}{rc:List V->Hp->VK->Prop}(hc:Cl1 X (.type n) rc)(hm:X.mg x=none)(hv:bootBuiltins x=some (.type n))(ha:As X (e::es) tA)(hg:Gl X x:=by rfl)(hn:x≠"__name__":=by decide)(hdb:(x==("__debug__":Str))=false:=by decide)
  (he:starEach (e::es) X.env=(false,eval e X.env)::starEach es X.env:=by rfl) (hpl:(backTo pos (starEach es X.env)).any (·.1)=false:=by rfl):E X (.Call (.Name x p) (e::es) [] pos) (tCB rc tA):=⟨awX hc.h hg hm hv ha.h hn hdb he hpl⟩
end
section
variable{X:Cx}
theorem aaM:Op2 X (binaryOp .Add) (rI0 fun i j=>.int (i+j)):=⟨aFE⟩
theorem abI:Op2 X (binaryOp .Sub) (rI0 fun i j=>.int (i-j)):=⟨aE4⟩
theorem acG:Op2 X (binaryOp .Mult) (rI CMul fun i j=>.int (i*j)):=⟨aDG⟩
theorem agO:Op2 X (binaryOp .FloorDiv) (rI aIE fun i j=>.int (i / j)):=⟨aBX⟩
theorem abL:Op2 X (binaryOp .Mod) (rI (fun _ j=>0<j) fun i j=>.int (i%j)):=⟨aDT⟩
theorem asC:Op2 X (binaryOp .Pow) (rI aAC fun i j=>.int (i^j.toNat)):=⟨aFJ⟩
theorem amQ:Op2 X (binaryOp .LShift) (rI aAC fun i j=>.int (i*2^j.toNat)):=⟨aEP⟩
theorem az1:Op2 X (binaryOp .RShift) (rI (fun _ j=>0<=j) fun i j=>.int (i / 2^j.toNat)):=⟨aE7⟩
theorem aw6:Op2 X (binaryOp .BitAnd) (rI0 fun i j=>.int (Builtin.bitAnd i j)):=⟨aEA⟩
theorem oOr:Op2 X (binaryOp .BitOr) (rI0 fun i j=>.int (Builtin.bitOr i j)):=⟨aL7⟩
theorem ayD:Op2 X (binaryOp .Add) aOT:=⟨aE1⟩
theorem oEq:Op2 X (compareOp .Eq) rEq:=⟨aPP⟩
theorem oNe:Op2 X (compareOp .NotEq) rNe:=⟨aKH⟩
theorem oLt:Op2 X (compareOp .Lt) (rI0 fun i j=>.bl (decide (i<j))):=⟨aHS⟩
theorem oLe:Op2 X (compareOp .LtE) (rI0 fun i j=>.bl (decide (i<=j))):=⟨aPZ⟩
theorem oGt:Op2 X (compareOp .Gt) (rI0 fun i j=>.bl (decide (j<i))):=⟨aI0⟩
theorem oGe:Op2 X (compareOp .GtE) (rI0 fun i j=>.bl (decide (j<=i))):=⟨aI3⟩
theorem xL:Ixs X (aOS X.K):=⟨aA6⟩
theorem xT:Ixs X (aH0 X.K):=⟨aEM⟩
theorem akK:Cl1 X (.builtin "len") (fun xs H Q=>∃p ys,xs=[.ref p]/\(SqL X.K H p ys∨SqT X.K H p ys)/\Q (.int ys.length) H):=⟨aoX⟩
theorem aNS:Cl1 X (.builtin "abs") (fun xs H Q=>∃i,xs=[.int i]/\Q (.int (if i<0 then -i else i)) H):=⟨azV⟩
theorem cMax(hc:X.calm=true:=by rfl):Cl1 X (.builtin "max") (fun xs H Q=>∃i j,xs=[.int i,.int j]/\Q (.int (if j>i then j else i)) H):=⟨awE hc⟩
theorem cMin(hc:X.calm=true:=by rfl):Cl1 X (.builtin "min") (fun xs H Q=>∃i j,xs=[.int i,.int j]/\Q (.int (if j<i then j else i)) H):=⟨awM hc⟩
end
section
variable{X:Cx}{e c iter tg:Expr}{te:TE}{tt:TT}{tA:TA}{wi:TI}{g:TG}{t u tb:TS}{st:Stmt}{rest body ba bb:List Stmt}{pos pos' p:Pos}{x:Str}{a1 a2:Expr}
theorem ssN:Ss X [] aCN:=⟨aBY⟩
theorem ssC(h1:S X st t)(h2:Ss X rest u):Ss X (st::rest) (aFR t u):=⟨az2 h1.h h2.h⟩
theorem ss1(h1:S X st t):Ss X [st] t:=⟨az9 h1.h⟩
theorem aoY:S X st axA:=⟨azY⟩
theorem aaG(he:E X e te):S X (.Return (some e) pos) (aJA te):=⟨aDI he.h⟩
theorem sIf(hc:T X c tt)(ha:Ss X ba t)(hb:Ss X bb u):S X (.If c ba bb pos) (aJ7 tt t u):=⟨aOD hc.h ha.h hb.h⟩
theorem al1(he:E X e te)(hs:swapsWith e none pos.line X.env=pure false:=by rfl):S X (.Expr e pos) (aCV te):=⟨az6 he.h hs⟩
theorem aaH(i:Nat)(he:E X e te)(hN:X.N.Nodup)(hi:X.N[i]? =some x:=by rfl)(hx:Loc X.env.scope x:=by first | exact Or.inl rfl | exact Or.inr rfl)(hs:swapsWith e (some (.Name x pos')) pos.line X.env=pure false:=by rfl)
  (hf:X.fn x=true∨X.env.scope.names.lookup x=some .local:=by first | exact .inl rfl | exact .inr rfl):S X (.Assign [.Name x pos'] e pos) (av1 te (abX i)):=⟨aF2 hN hi hx he.h hs hf⟩
theorem gN(i:Nat)(hN:X.N.Nodup)(hi:X.N[i]? =some x:=by rfl)(hx:Loc X.env.scope x:=by first | exact Or.inl rfl | exact Or.inr rfl)(hf:X.fn x=true∨X.env.scope.names.lookup x=some .local:=by first | exact .inl rfl | exact .inr rfl):Gt X (.Name x pos) (abX i):=⟨aB5 hN hi hx hf⟩
theorem ad6(hi:Il X tg iter wi)(hg:Gt X tg g)(hb:Ss X body tb)(hp:PassesOwn (model X.prog X.w) X.A X.env X.xe)(hc:X.calm=true:=by rfl)(hs:∀x,foldedSetIterable iter X.env x=pure x:=by intro _;rfl):S X (.For tg iter body [] pos) (aJT wi g tb):=⟨aFX hp hc hi.h hg.h hb.h hs⟩
theorem sWh(hc:T X c tt)(hb:Ss X body tb)(hp:PassesOwn (model X.prog X.w) X.A X.env X.xe):S X (.While c body [] pos) (at5 tt tb):=⟨axZ hp hc.h hb.h⟩
theorem iL(hl:E X e te):Il X tg e (aC2 X.K te):=⟨aAW hl.h⟩
theorem iT(hl:E X e te):Il X tg e (aLL X.K te):=⟨aE6 hl.h⟩
theorem iR1(hm:X.mg "range"=none)(ha:As X [a1] tA)(hg:Gl X "range":=by rfl)(hs:starEach [a1] X.env=[(false,eval a1 X.env)]:=by rfl):Il X tg (.Call (.Name "range" p) [a1] [] pos) (aCK tA):=⟨awS hg hm ha.h hs⟩
theorem iR2(hm:X.mg "range"=none)(ha:As X [a1,a2] tA)(hg:Gl X "range":=by rfl)(hs:starEach [a1,a2] X.env=[(false,eval a1 X.env),(false,eval a2 X.env)]:=by rfl)(hs2:starEach [a2] X.env=[(false,eval a2 X.env)]:=by rfl):
  Il X tg (.Call (.Name "range" p) [a1,a2] [] pos) (aCI tA):=⟨awA hg hm ha.h hs hs2⟩
end
section
variable{P:Program}{w:World}{K:FG}{mg:Str->Option Value}{base:Heap}{x:Str}{st:Stmt}{ps N:List Str}{k:Nat}{sp:Sp}
theorem Fn.dfs(F:Fn K mg x st ps)(S':FnScope N ps (aaC st))(len:∀vs H Q E,sp vs H Q E->vs.length=ps.length)
  (hbody:∀(f:Addr) (cdv:Value) (A:Around) (outer:List Env) (s:Shared) (H:Hp) (vs:List V) (Q:VK) (E:XK),Room k (A.deeper (envOfC x (aaC st) s.heap.objs.size f cdv))->sp vs H Q E->
   ∃t,Ss (aiX CX0 P w K mg base N x (aaC st) f cdv A outer s H E).nox (aaU st) t/\t {nx:=fun _ H'=>Q .non H',rt:=Q} (start N vs) H):Df P w K mg base x (k+1) ps sp:=
 F.df S' len fun f cdv A outer s H vs Q E hr h=>by
  obtain⟨t,h1,h2⟩:=hbody f cdv A outer s H vs Q E hr h
  exact⟨t,h1.h,h2⟩
theorem Fun.oks{f:Addr}{fd:FuncData}(F:Fun K x x st f fd)(S':FnScope N ps (aaC st))(len:∀vs H Q E,sp vs H Q E->vs.length=ps.length)
  (hbody:∀(cdv:Value) (A:Around) (outer:List Env) (s:Shared) (H:Hp) (vs:List V) (Q:VK) (E:XK),Room k (A.deeper (envOfC x (aaC st) s.heap.objs.size f cdv))->sp vs H Q E->
   ∃t,Ss (aiX CX0 P w K mg base N x (aaC st) f cdv A outer s H E).nox (aaU st) t/\t {nx:=fun _ H'=>Q .non H',rt:=Q} (start N vs) H):FnOk P w K mg base CX0 (k+1) f fd ps sp:=
 F.ok S' len fun cdv A outer s H vs Q E hr h=>by
  obtain⟨t,h1,h2⟩:=hbody cdv A outer s H vs Q E hr h
  exact⟨t,h1.h,h2⟩
end
end L2
namespace L2
open PySem PySem.Spec PyProof.Rows PySem.SeqAt
theorem agX:∀{is:List Int} {us:List Value},Vals (is.map V.int) us->IntsAre us is
 |[],_,.nil=>.nil
 |_::_,_,.cons ⟨_,rfl⟩ r=>.cons _ _ (agX r)
section
variable{X:Cx}
theorem av3(hc:X.calm=true):aeK X (.builtin "sum") (fun xs H Q=>∃(p:Addr) (is:List Int),xs=[.ref p]/\SqL X.K H p (is.map V.int)/\Q (.int is.sum) H):=by
 intro pins s σ H xs us Q I r h
 obtain⟨p,is,rfl,hq,q⟩:=h
 obtain⟨u,rfl,r1⟩:=ac3 r
 cases r1
 obtain⟨its,rv,pl,hz⟩:=I.list hq
 have hi:=agX rv
 obtain⟨ys,hy⟩:=hi.allInts.items
 have hl:s.heap.IsList p (intItems ys):=by rw[←hy];exact pl.isList
 refine sum_intListG (I.ok.hd hc) hl fun h' tk t' hk=>?_
 have e1:is=ys.toList.map (·.1):=by
  rw[←nums_intItems,←hy]
  exact hi.numsOf.symm
 have e2:preSum (numAt ys) ys.size=is.sum:=by
  rw[preSum_eq,dH (by simp),e1]
 rw[e2]
 exact⟨.int is.sum,H,I.kept hk,⟨_,rfl⟩,q⟩
end
section
variable{X:Cx}{elt iter:Expr}{x y:Str}{px py pos spos:Pos}{ifs:List Expr}{scope:Scope}{wi:TI}{tt:TT}{te:TE}
theorem ar3(N':List Str)(js:List Nat)(hi:Il X (.Name x px) iter wi)
  (ht:∀(cl:List (Str×Addr)) (C:Addr) (ex:List Addr) (pins:List (Addr×Obj)) (s:Shared) (H:Hp),Fs (aaO X (x::N') scope cl C ex pins s H) ifs tt)
  (he:∀(cl:List (Str×Addr)) (C:Addr) (ex:List Addr) (pins:List (Addr×Obj)) (s:Shared) (H:Hp),E (aaO X (x::N') scope cl C ex pins s H) elt te)
  (hcl:∃cl,Clos X scope cl:=by exact apZ rfl rfl rfl rfl) (hx:scope.names.lookup x=some .local:=by rfl) (hnd:(x::N').Nodup:=by decide +kernel) (hN:js.map (fun j=>X.N[j]?)=N'.map some:=by rfl)
  (hk:N'.all (fun y=>(X.env.kindOf y==some .cell)||(X.env.kindOf y==some .free))=true:=by rfl) (hf:N'.all (fun y=>scope.names.lookup y==some .free)=true:=by rfl) (hc:X.calm=true:=by rfl)
  (hs:∀x,foldedSetIterable iter X.env x=pure x:=by intro _;rfl):E X (.ListComp elt [⟨.Name x px,iter,ifs,0⟩] scope pos) (ay1 wi js tt te):=by
 obtain⟨cl,hcl⟩:=hcl
 exact⟨aBZ hcl hx hnd hN hk hf hc hi.h (fun C ex pins s H=>(ht cl C ex pins s H).h) (fun C ex pins s H=>(he cl C ex pins s H).h) hs⟩
theorem aC3(i:Nat)(N':List Str)(js:List Nat)(hi:Il X (.Name x px) iter wi)
  (ht:∀(cl:List (Str×Addr)) (C:Addr) (ex:List Addr) (pins:List (Addr×Obj)) (s:Shared) (H:Hp),Fs (aaO X (x::N') scope cl C ex pins s H) ifs tt)
  (he:∀(cl:List (Str×Addr)) (C:Addr) (ex:List Addr) (pins:List (Addr×Obj)) (s:Shared) (H:Hp),E (aaO X (x::N') scope cl C ex pins s H) elt te)
  (hXN:X.N.Nodup) (hsw:swapsWith (.ListComp elt [⟨.Name x px,iter,ifs,0⟩] scope pos) (some (.Name y py)) spos.line X.env=pure true:=by rfl)
  (hiN:X.N[i]? =some y:=by rfl) (hy:X.env.scope.names.lookup y=some .local:=by rfl)
  (hcl:∃cl,Clos X scope cl:=by exact apZ rfl rfl rfl rfl) (hx:scope.names.lookup x=some .local:=by rfl) (hnd:(x::N').Nodup:=by decide +kernel) (hN:js.map (fun j=>X.N[j]?)=N'.map some:=by rfl)
  (hk:N'.all (fun y=>(X.env.kindOf y==some .cell)||(X.env.kindOf y==some .free))=true:=by rfl) (hf:N'.all (fun y=>scope.names.lookup y==some .free)=true:=by rfl) (hc:X.calm=true:=by rfl)
  (hs:∀x,foldedSetIterable iter X.env x=pure x:=by intro _;rfl):S X (.Assign [.Name y py] (.ListComp elt [⟨.Name x px,iter,ifs,0⟩] scope pos) spos) (av1 (ay1 wi js tt te) (abX i)):=by
 obtain⟨cl,hcl⟩:=hcl
 refine⟨fun pins s σ H D I h=>?_⟩
 rw[exec_Assign_Name_used _ _ _ _ hsw]
 refine dJ (wpAny_standAt (dJ ?_))
 show wpAny _ X.A (do let _ ←comprehension (.ListComp elt [⟨.Name x px,iter,ifs,0⟩] scope pos) scope X.env _ (newList []) false (eval iter X.env) (some (assign (.Name y py) X.env))) _ _ s
 refine dJ (dM (wpAny_comprehension_free (use:=some (assign (.Name y py) X.env)) (Q:=fun _ s'=>SP X pins D .next s') rfl hs hcl.is hcl.kind hcl.names ?_) (fun _ s' hq=>dX (dX hq)) fun _ _ z=>z)
 refine thn (hi.h pins s σ H _ I h) fun xv s₁ h₁=>thn h₁ fun itv s₂ h₂=>?_
 obtain⟨it,fp,tn,J,H2,rfl,I2,T,st,hfp,q⟩:=h₂
 refine akP (Q:=fun v H'=>D.nx (σ.set i (some v)) H') (RR:=fun acc C=>compPost (model X.prog X.w) X.A X.xe (some (assign (.Name y py) X.env)) (fun _ s'=>SP X pins D .next s') acc C) hcl hx hnd hN hk hf hc (fun C ex pins s H=>(ht cl C ex pins s H).h) (fun C ex pins s H=>(he cl C ex pins s H).h) I2 T st hfp q ?_
 intro D' C s' H' m I' hC0 hCL hCs hCc hCp hn hq
 show wpAny _ _ (assign (.Name y py) X.env (.ref D')) _ _ s'
 refine wpAny_assign_Name (anQ I' hXN hiN (.inl hy) (v:=.ref D') rfl (fun s3 I3 sb3=>?_) (.inr hy))
 obtain⟨a3,sb3,e3⟩:=sb3
 have hCa:C≠a3:=by
  rcases e3 with e3 | e3
  ·rw[e3];exact hCL
  ·exact fun z=>hCc y a3 e3 z.symm
 refine⟨m,hn.sameBut sb3 hCa,fun h' sb=>⟨σ.set i (some (.ref D')),H',?_,hq⟩⟩
 exact I3.turned (t':=s3.toks) (fun b o hb e=>(sb.2 b hb).trans e) hC0 hCL (.inr hCs) hCc hCp
theorem fsN:Fs X [] aI2:=⟨aFZ⟩
theorem fs1{c:Expr}(h:T X c tt):Fs X [c] tt:=⟨aEU h.h⟩
theorem cSum(hc:X.calm=true:=by rfl):Cl1 X (.builtin "sum") (fun xs H Q=>∃(p:Addr) (is:List Int),xs=[.ref p]/\SqL X.K H p (is.map V.int)/\Q (.int is.sum) H):=⟨av3 hc⟩
theorem gTu{es:List Expr}{k n:Nat}{t:TGs}(h:Gts X es t)(hc:X.calm=true:=by rfl)(hn:(assignEach es X.env).length=n:=by rfl)(hst:(assignEach es X.env).findIdx? (·.1)=none:=by rfl):Gt X (.Tuple es k pos) (aw5 X.K n t):=⟨aD8 hc h.h hn hst⟩
theorem gsN:Gts X [] aCF:=⟨aBE⟩
theorem gsC{e:Expr}{es:List Expr}{t:TG}{u:TGs}(h1:Gt X e t)(h2:Gts X es u)(hs:(assignEach (e::es) X.env).map (·.2)=assign e X.env::(assignEach es X.env).map (·.2):=by rfl):Gts X (e::es) (alN t u):=⟨azB h1.h h2.h hs⟩
theorem akW{tg e:Expr}{g:TG}(he:E X e te)(hg:Gt X tg g)(hs:swapsWithSole [tg] e pos.line X.env=pure false:=by rfl)(hw:swappedStores [tg] e X.env=pure none:=by rfl)
  (h1:(assignEach [tg] X.env).map (·.2)=[assign tg X.env]:=by rfl):S X (.Assign [tg] e pos) (av1 te g):=⟨aD4 he.h hg.h hs hw h1⟩
end
section
variable{js:List Nat}{σ:St}{tt:TT}{te:TE}{Q:VK}{H1:Hp}
theorem anU{K:FG}{a:Addr}{xs:List V}(R:Nat->List V->Prop)(hn:xs.length<=sizeLine)(h0:R 0 [])(hq:SqL K H1 a xs)
  (hs:∀(i:Nat) (v:V) (l:List V) (D:Addr) (H2:Hp) (E:V->Hp->Prop) (F:Hp->Prop),xs[i]? =some v->R i l->H1 D=none->Same H1 H2->H2 D=some (.lst l)->(∀y H5,Same H2 H5->R (i+1) (l++[y])->E y H5)->(∀H4,Same H2 H4->R (i+1) l->F H4)->
   tt (some v::aa4 js σ) H2 fun b H4=>if b=true then te (some v::aa4 js σ) H4 E else F H4)
  (hd:∀(D:Addr) (H2:Hp) (l:List V),R xs.length l->H1 D=none->Same H1 H2->H2 D=some (.lst l)->Q (.ref D) H2):avF (Itl K a) js σ tt te Q H1:=by
 intro D hD
 refine⟨fun i m H2=>m=xs.length-i/\i<=xs.length/\Same H1 H2/\∃l,H2 D=some (.lst l)/\l.length<=i/\R i l,⟨xs.length,by simp,bO _,aaB hD _,[],aaA,aQ _,h0⟩,?_⟩
 rintro i m H2 ⟨rfl,hi,s2,l,h2,hll,hR⟩
 by_cases hlt:i<xs.length
 ·refine .inr ⟨⟨xs,xs[i],s2.seq hq,by simp[hlt]⟩,fun v H3 y=>?_⟩
  obtain⟨e,ev⟩:=y
  subst e
  have hv:=ev xs (s2.seq hq)
  refine hs i v l D _ _ _ hv hR hD s2 h2 (fun z H5 s5 r5=>?_) (fun H4 s4 r4=>?_)
  ·refine⟨l,s5 _ _ h2,c9 hll (aY hlt hn),xs.length-(i+1),by omega,rfl,hlt,fun b o hb=>?_,l++[z],aaA,by rw[aU,bM];omega,r5⟩
   rw[aaF (aaI hb hD)]
   exact s5 _ _ (s2 _ _ hb)
  ·exact⟨xs.length-(i+1),by omega,rfl,hlt,s2.trans s4,l,s4 _ _ h2,by omega,r4⟩
 ·have e:i=xs.length:=by omega
  subst e
  exact .inl ⟨⟨xs,s2.seq hq,aQ _⟩,hd D H2 l hR hD s2 h2⟩
noncomputable def IntsR(i:Nat)(l:List V):Prop:=∃zs:List Int,l=zs.map V.int/\zs.length<=i
theorem IntsR.nil:IntsR 0 []:=⟨[],rfl,aQ _⟩
theorem IntsR.one{i:Nat}{l:List V}(h:IntsR i l)(z:Int):IntsR (i+1) (l++[.int z]):=by
 obtain⟨zs,rfl,hl⟩:=h
 exact⟨zs++[z],by rw[bD];rfl,by rw[aU,bM];omega⟩
theorem Same.tup{K:FG}{H H':Hp}{a:Addr}{xs:List V}(e:Same H H')(h:SqT K H a xs):SqT K H' a xs:=by
 rcases h with (h | ⟨o,h⟩) | h
 ·exact .inl (.inl (e _ _ h))
 ·exact .inl (.inr ⟨o,e _ _ h⟩)
 ·exact .inr h
theorem anD{α:Type}(f:Nat->α)(n:Nat):(List.range (n+1)).map f=(List.range n).map f++[f n]:=by rw[List.range_succ,bD];rfl
theorem ae9{c:TT}{tb:TS}{D:Ends}{σ:St}{H:Hp}(Pv:St->Hp->Prop)(μ:St->Hp->Nat)(h0:Pv σ H)
  (hs:∀σ H,Pv σ H->c σ H fun b H1=>if b=true then ∃N:St->Hp->Prop,(∀σ' H',N σ' H'->∃m',m'<μ σ H/\m'=μ σ' H'/\Pv σ' H')/\tb {D with nx:=N,ct:=N,bk:=D.nx} σ H1 else D.nx σ H1):at5 c tb D σ H:=
 ⟨fun m σ H=>m=μ σ H/\Pv σ H,⟨_,rfl,h0⟩,by
  rintro m σ H ⟨rfl,p⟩
  exact hs σ H p⟩
theorem aqK{X:Cx}:Op1 X (unaryOp .USub) (rU fun i=>.int (-i)):=⟨aDF⟩
end
section
variable{prog:Program}{w:World}{A:Around}{E:Value->Shared->Prop}{s:Shared}
theorem aC6{it l:Addr}{its:Array Value}(hne:l≠it):∀(n i:Nat) (s:Shared) (Q:List Value->Shared->Prop),s.heap.IsListIter it l i->s.heap.IsList l its->i+n<=its.size->
  (∀h',h'.IsListIter it l (i+n)->Heap.SameBut it s.heap h'->Q ((its.toList.drop i).take n) {s with heap:=h'})->wpAny (model prog w) A (draw (.ref it) n) Q E s
 |0,i,s,Q,hit,_,_,hQ=>by
  have z:wpAny (model prog w) A (pure ([]:List Value)) Q E s:=dX (by simpa using hQ s.heap hit (Heap.SameBut.refl ..))
  exact z
 |n+1,i,s,Q,hit,hl,hle,hQ=>by
  have hi:i<its.size:=by omega
  have z:wpAny (model prog w) A (pyNext (.ref it)) (fun r s₁=>wpAny (model prog w) A (match r with | none=>pure [] | some v=>(do let rest ←holding [v] (draw (.ref it) n);pure (v::rest))) Q E s₁) E s:=by
   refine wpAny_pyNext_list_item hit hl (x:=its[i]) (by simp[hi]) fun h₁ hit₁ hs₁=>?_
   refine dJ (dO (aC6 hne n (i+1) _ _ hit₁ (hl.extBut hs₁.extBut hne) (by omega) fun h₂ hit₂ hs₂=>dX ?_))
   have hd:its.toList.drop i=its[i]::its.toList.drop (i+1):=by simp[List.drop_eq_getElem_cons,hi]
   have e:i+(n+1)=i+1+n:=by omega
   have q:=hQ h₂ (by rw[e];exact hit₂) (hs₁.trans hs₂)
   rw[hd,List.take_succ_cons] at q
   exact q
  exact dJ z
theorem az8{l:Addr}{its:Array Value}{Q:List Value->Shared->Prop}(hh:A.handled=none)(hl:s.heap.IsList l its)(hQ:∀h',Heap.ExtBut s.heap.objs.size s.heap h'->Q its.toList {s with heap:=h'}):
  wpAny (model prog w) A (unpackItems (.ref l) its.size none) Q E s:=by
 have hne:l≠s.heap.objs.size:=by
  obtain⟨o,ho,_⟩:=hl
  exact aX (aS ho)
 unfold unpackItems
 refine dJ ?_
 unfold notIterableAtAll
 refine dJ (wpAny_specialOf hl.typeIs slot_list_iter.lookup (dX ?_))
 simp only[Bool.false_eq_true,if_false]
 refine dJ (dO (wpAny_pyIter_list hl (dJ (dO (aC6 hne its.size 0 _ _ ⟨_,bK _ rfl,rfl,rfl⟩ (hl.push _) (by omega) fun h₁ hit₁ hs₁=>?_)))))
 have all:List.take its.size (List.drop 0 its.toList)=its.toList:=by
  rw[List.drop_zero]
  exact dH (by simp)
 rw[all,if_neg (by simp)]
 have hl₁:h₁.IsList l its:=(hl.push _).extBut hs₁.extBut hne
 refine dJ (dO (wpAny_pyNext_list_end hh hit₁ hl₁ (by simp) fun h₂ he₂=>?_))
 simp only[Option.isSome_none,Bool.false_eq_true,if_false]
 exact dX (hQ h₂ fun b o hb e=>he₂ b o hb (hs₁.extBut b o hb (aZ _ e)))
end
noncomputable def aM2(K:FG)(n:Nat)(t:TGs):TG:=fun v σ H Q=>∃a xs,v=.ref a/\SqL K H a xs/\xs.length=n/\t xs σ H Q
section
variable{X:Cx}{pos:Pos}
theorem aE8{es:List Expr}{k n:Nat}{t:TGs}(h:Gts X es t)(hc:X.calm=true:=by rfl)(hn:(assignEach es X.env).length=n:=by rfl)(hst:(assignEach es X.env).findIdx? (·.1)=none:=by rfl):Gt X (.Tuple es k pos) (aM2 X.K n t):=by
 refine⟨fun pins s σ H v u Q I r hw=>?_⟩
 obtain⟨a,xs,e1,hq,hl,hw⟩:=hw
 subst e1
 cases r
 obtain⟨its,rv,pl,hz⟩:=I.list hq
 rw[assign_Tuple]
 refine dJ (wpAny_standAt ?_)
 unfold unpack
 have e2:(assignEach es X.env).length=its.toArray.size:=by rw[hn,←hl,rv.length,bB]
 rw[e2,hst]
 refine dJ (dO (az8 (I.ok.hd hc) pl.isList fun h' hx=>?_))
 have I1:Inv X pins σ H {s with heap:=h'}:=I.kept (t':=s.toks) fun b o e=>hx b o (aX (aS e)) e
 exact h.h pins _ σ H xs _ Q I1 (by simpa using rv) hw
theorem apW{o e:Expr}{to te:TE}{apos cpos:Pos}(ho:E X o to)(he:E X e te)(hbase:attributeBase o "append" X.env (eval o X.env)=eval o X.env:=by rfl)
  (hfew:((backTo cpos (starEach [e] X.env)).all (fun x=> !x.1)&&(backToKw cpos (keywordEach [] X.env)).all (fun x=>x.1.isSome)&&decide (([e]:List Expr).length+([]:List Keyword).length+(if ([]:List Keyword).isEmpty then 0 else 1)<30))=true:=by rfl)
  (hline:(apos.endLine==cpos.line)=true:=by rfl) (hs:starEach [e] X.env=(false,eval e X.env)::starEach [] X.env:=by rfl) (hplain:(backTo cpos (starEach [] X.env)).any (·.1)=false:=by rfl):
  E X (.Call (.Attribute o "append" apos) [e] [] cpos) (tBM X.K "list" auM to (af1 te agB)):=
 ⟨arA PySem.F.plainAttrs_list PySem.F.slot_list_append PySem.F.type_list_append ahT ho.h (ac4 he.h aeT hs) hbase hfew hline hs hplain⟩
end
section
variable{js:List Nat}{σ:St}{tt:TT}{te:TE}{Q:VK}{H1:Hp}
end
noncomputable def Digs(ds ss:List Int):Prop:=Paired (fun d z:Int=>0<=d/\d<z) ds ss
theorem Digs.snoc{ds ss:List Int}{d z:Int}(h:Digs ds ss)(h0:0<=d)(h1:d<z):Digs (ds++[d]) (ss++[z]):=Paired.snoc h ⟨h0,h1⟩
theorem Digs.len{ds ss:List Int}(h:Digs ds ss):ds.length=ss.length:=Paired.length h
theorem Digs.four{ds:List Int}{a b c d:Int}(h:Digs ds [a,b,c,d]):∃x y z w:Int,ds=[x,y,z,w]/\(0<=x/\x<a)/\(0<=y/\y<b)/\(0<=z/\z<c)/\0<=w/\w<d:=by
 cases h with
 |cons h1 r=>cases r with | cons h2 r=>cases r with | cons h3 r=>cases r with | cons h4 r=>cases r;exact⟨_,_,_,_,rfl,h1,h2,h3,h4⟩
theorem abZ{H H2:Hp}{p:Addr}{o:HO}(hn:H p=none)(s:Same H H2):Same H (upd H2 p o):=fun b u h=>by
 rw[aaF (aaI h hn)]
 exact s b u h
theorem aMV{a m b:Int}(h0:0<m)(h1:m<=18446744073709551616):CMul (a%m) b:=.inl ⟨Int.lt_of_lt_of_le (by decide) (bW a (Int.ne_of_gt h0)),Int.lt_of_lt_of_le (cF a h0) h1⟩
theorem aK6:(10:Int)^(18:Int).toNat=1000000000000000000:=by decide +kernel
theorem auS:(10:Int)^(58:Int).toNat=10000000000000000000000000000000000000000000000000000000000:=by decide +kernel
structure FnM(K:FG)(C:Addr)(m qual:Str)(st:Stmt)(ps:List Str):Prop where
 ex:∃(f:Addr) (fd:FuncData),Fun K m qual st f fd/\Binds K fd ps []/\Meth K C m f
structure DfM(P:Program)(w:World)(K:FG)(mg:Str->Option Value)(base:Heap)(C:Addr)(m:Str)(k:Nat)(ps:List Str)(sp:Sp):Prop where
 ex:∃(f:Addr) (fd:FuncData),FnOk P w K mg base CX0 k f fd ps sp/\Binds K fd ps []/\Meth K C m f
structure Cd(K:FG)(mg:Str->Option Value)(x:Str)(C:Addr):Prop where
 at_:mg x=some (.ref C)
 cl:Cls K C
 makes:PySem.W.makesIn K C=true
 kp:PySem.W.keepIn K (.ref C)=true
section
variable{P:Program}{w:World}{K:FG}{mg:Str->Option Value}{base:Heap}{m qual:Str}{st:Stmt}{ps N:List Str}{k:Nat}{sp:Sp}{C:Addr}
theorem FnM.dfs(F:FnM K C m qual st ps)(S':FnScope N ps (aaC st))(len:∀vs H Q E,sp vs H Q E->vs.length=ps.length)
  (hbody:∀(f:Addr) (cdv:Value) (A:Around) (outer:List Env) (s:Shared) (H:Hp) (vs:List V) (Q:VK) (E:XK),Room k (A.deeper (envOfC qual (aaC st) s.heap.objs.size f cdv))->sp vs H Q E->
   ∃t,Ss (aiX CX0 P w K mg base N qual (aaC st) f cdv A outer s H E).nox (aaU st) t/\t {nx:=fun _ H'=>Q .non H',rt:=Q} (start N vs) H):DfM P w K mg base C m (k+1) ps sp:=by
 obtain⟨f,fd,F1,hb,hm⟩:=F.ex
 refine⟨⟨f,fd,F1.ok S' len fun cdv A outer s H vs Q E hr h=>?_,hb,hm⟩⟩
 obtain⟨t,h1,h2⟩:=hbody f cdv A outer s H vs Q E hr h
 exact⟨t,h1.h,h2⟩
theorem abF{f:Addr}{oc:Value}{od an:Option Addr}{osl:Array (Option Value)}{kV doc pm cdv ct:Value}
  (a:PySem.W.findIn K (.ref C) m=some (some (.ref f))) (i:PySem.W.isFn K (.ref f)=true) (l:K.lookup f=some ⟨oc,od,.func (PySem.W.fnOf m qual (aa7 st) (aaU st) (aaC st) .none kV doc pm an cdv ct),osl⟩)
  (c:PySem.W.codeIn K cdv qual=true) (k:PySem.W.keepIn K (.ref f)=true)
  (hb:∀(kV doc pm:Value) (an:Option Addr) (cdv ct:Value) (us:List Value),us.length=ps.length->bindArgs (PySem.W.fnOf m qual (aa7 st) (aaU st) (aaC st) .none kV doc pm an cdv ct) ⟨us,[]⟩=pure (ps.zip us)):FnM K C m qual st ps:=by
 have F:=apT (st:=st) l c k
 exact⟨⟨f,_,F,F.binds (ps:=ps) hb,⟨a,i,k⟩⟩⟩
end
section
variable{X:Cx}{x m:Str}{C:Addr}{k k':Nat}{ps:List Str}{sp:Sp}{e o value:Expr}{es:List Expr}{ta tv:TE}{t:TA}{p pos apos pos':Pos}{f:Str}
theorem eMk(c:Cd X.K X.mg x C)(D:DfM X.prog X.w X.K X.mg X.base C "__init__" k ps sp)(hr:Room k' X.A)(ha:As X (e::es) t)(hk:k+1<=k':=by decide)(hg:Gl X x:=by rfl)(hdb:(x==("__debug__":Str))=false:=by decide)
  (he:starEach (e::es) X.env=(false,eval e X.env)::starEach es X.env:=by rfl) (hpl:(backTo pos (starEach es X.env)).any (·.1)=false:=by rfl):E X (.Call (.Name x p) (e::es) [] pos) (at8 C sp [] E0 t):=by
 obtain⟨f,fd,F,hb,hm⟩:=D.ex
 exact⟨aCA ⟨c.makes,hm.at_,hm.fn,c.kp⟩ F (hr.mono hk) hg c.at_ hb .nil ajW ha.h hdb he hpl⟩
theorem eMe{pl:Sem Bool}(c:Cls X.K C)(D:DfM X.prog X.w X.K X.mg X.base C m k ps sp)(hr:Room k' X.A)(ho:E X o ta)(ha:As X (e::es) t)(hk:k<=k':=by decide)
  (hst:starEach (e::es) X.env=(false,eval e X.env)::starEach es X.env:=by rfl) (hpl:(backTo pos (starEach es X.env)).any (·.1)=false:=by rfl)
  (ht:eval (.Call (.Attribute o m apos) (e::es) [] pos) X.env=(do
   let ov ←eval o X.env
   standAt apos.atName
   let (f,first) ←holding [ov] (getMethod ov m pl)
   callWith pos f first (backTo pos (starEach (e::es) X.env)) (backToKw pos (keywordEach [] X.env))):=by rfl):E X (.Call (.Attribute o m apos) (e::es) [] pos) (aqZ C m sp [] E0 ta t):=by
 obtain⟨f,fd,F,hb,hm⟩:=D.ex
 exact⟨aCC ho.h c hm F (hr.mono hk) hb .nil ajW ha.h hst hpl ht⟩
theorem eFl(he:E X e ta)(hb:attributeBase e f X.env (eval e X.env)=eval e X.env:=by rfl):E X (.Attribute e f pos) (aFC X.K ta f):=⟨aFN he.h hb⟩
theorem sFl(ha:E X o ta)(hv:E X value tv)(hs:swapsWith value (some (.Attribute o f pos')) pos.line X.env=pure false:=by rfl):S X (.Assign [.Attribute o f pos'] value pos) (aOK X.K ta tv f):=⟨aE2 ha.h hv.h hs⟩
noncomputable def tMkN(C:Addr):TE:=fun _ H Q=>∀x dx,H x=none->H dx=none->dx≠x->Q (.ref x) (upd (upd H dx (.own x)) x (.ins C dx []))
theorem eMkN(c:Cd X.K X.mg x C)(hi:PySem.W.findIn X.K (.ref C) "__init__"=some (some (.builtin "object.__init__")))(hg:Gl X x:=by rfl)(hdb:(x==("__debug__":Str))=false:=by decide):E X (.Call (.Name x p) [] [] pos) (tMkN C):=by
 refine⟨fun pins s σ H Q I h=>?_⟩
 refine dW (adJ I hg c.at_ ?_ hdb)
 refine PySem.W.callWith_K0 I.kIn c.kp (wpAny_call ?_)
 have hq:=h (s.heap.objs.size+1) s.heap.objs.size (I.hok.fresh (Nat.le_succ _)) (I.hok.fresh (aQ _)) (aX (Nat.lt_succ_self _))
 have I2:=Inv.made (C:=C) I
 have e2:((s.heap.push PySem.W.emptyDict).push (PySem.W.instObj C s.heap.objs.size)).get? (s.heap.objs.size+1)=some (PySem.W.instObj C s.heap.objs.size):=by
  have:=bK (s.heap.push PySem.W.emptyDict) (o:=PySem.W.instObj C s.heap.objs.size) rfl
  rwa [Heap.size_push] at this
 have Y:=PySem.W.makes_of (M:=model X.prog X.w) I.kIn c.makes
 refine avV I.kIn c.makes hi (fun self=>PySem.W.Looks.of_pure (PySem.W.oi_bind self)) ?_
 have t1:PySem.W.Looks (model X.prog X.w) ((s.heap.push PySem.W.emptyDict).push (PySem.W.instObj C s.heap.objs.size)) (typeOf (.ref (s.heap.objs.size+1))) (.ref C):=(PySem.W.Looks.ld e2).andThen .now
 have t2:PySem.W.Looks (model X.prog X.w) ((s.heap.push PySem.W.emptyDict).push (PySem.W.instObj C s.heap.objs.size)) (isInstance (.ref (s.heap.objs.size+1)) (.type "object")) true:=t1.andThen (Y.top.keeps fun b o q=>aZ _ (aZ _ q))
 refine codeAny_call_builtin PySem.W.oi_plain PySem.W.entry_oi (@PySem.W.check_slot (model X.prog X.w) _ _ _ "object.__init__" "object" "__init__" (.ref (s.heap.objs.size+1)) [] [] _ PySem.W.oi_kind PySem.W.oi_split t2 (PySem.W.oi_args (.ref (s.heap.objs.size+1))) ?_)
 rw[PySem.W.oi_run]
 exact dX (And.intro rfl ⟨V.ref (s.heap.objs.size+1),_,I2,rfl,hq⟩)
end
structure Po(X:Cx)(o:Option Expr)(t:TO):Prop where
 h:PO X o t
structure Sls(X:Cx)(r:V->Option Int->Option Int->Hp->VK->Prop):Prop where
 h:SlR X r
section
variable{X:Cx}{e:Expr}{te:TE}{lo hi:Option Expr}{tl th:TO}{pos p2:Pos}
theorem poN:Po X none avC:=⟨aBP⟩
theorem poS(h:E X e te):Po X (some e) (aCU te):=⟨aBC h.h⟩
theorem slL:Sls X (aKR X.K):=⟨aAU⟩
theorem eSl{r:V->Option Int->Option Int->Hp->VK->Prop}(hr:Sls X r)(he:E X e te)(hl:Po X lo tl)(hu:Po X hi th):E X (.Subscript e (.Slice lo hi none p2) pos) (tSl r te tl th):=⟨ayC hr.h he.h hl.h hu.h⟩
end
noncomputable def aJ1(xs:List Int)(lo hi:Option Int):List Int:=(xs.drop (HT.sIx xs.length 0 lo)).take (HT.sIx xs.length xs.length hi-HT.sIx xs.length 0 lo)
structure FunD(K:FG)(x qual:Str)(st:Stmt)(f:Addr)(fd:FuncData):Prop where
 ex:∃(oc:Value) (od:Option Addr) (dV kV doc pm:Value) (an:Option Addr) (cdv ct:Value) (osl:Array (Option Value)),
  fd=PySem.W.fnOf x qual (aa7 st) (aaU st) (aaC st) dV kV doc pm an cdv ct/\K.lookup f=some ⟨oc,od,.func fd,osl⟩/\PySem.W.codeIn K cdv qual=true
 kp:PySem.W.keepIn K (.ref f)=true
structure FnMD(K:FG)(C:Addr)(m qual:Str)(st:Stmt)(ps:List Str)(dvs:List V):Prop where
 ex:∃(f:Addr) (fd:FuncData) (ds:List Value),FunD K m qual st f fd/\Binds K fd ps []/\Vals dvs ds/\Binds K fd ps ds/\Meth K C m f
structure DfMD(P:Program)(w:World)(K:FG)(mg:Str->Option Value)(base:Heap)(C:Addr)(m:Str)(k:Nat)(ps:List Str)(sp:Sp)(dvs:List V):Prop where
 ex:∃(f:Addr) (fd:FuncData) (ds:List Value),FnOk P w K mg base CX0 k f fd ps sp/\Binds K fd ps []/\Vals dvs ds/\Binds K fd ps ds/\Meth K C m f
section
variable{P:Program}{w:World}{K:FG}{mg:Str->Option Value}{base:Heap}{m qual:Str}{st:Stmt}{ps N:List Str}{k:Nat}{sp:Sp}{C:Addr}{dvs:List V}
theorem DfMD.dfm(D:DfMD P w K mg base C m k ps sp dvs):DfM P w K mg base C m k ps sp:=by
 obtain⟨f,fd,ds,a,b,_,_,e⟩:=D.ex
 exact⟨⟨f,fd,a,b,e⟩⟩
theorem FnMD.dfs(F:FnMD K C m qual st ps dvs)(S':FnScope N ps (aaC st))(len:∀vs H Q E,sp vs H Q E->vs.length=ps.length)
  (hbody:∀(f:Addr) (cdv:Value) (A:Around) (outer:List Env) (s:Shared) (H:Hp) (vs:List V) (Q:VK) (E:XK),Room k (A.deeper (envOfC qual (aaC st) s.heap.objs.size f cdv))->sp vs H Q E->
   ∃t,Ss (aiX CX0 P w K mg base N qual (aaC st) f cdv A outer s H E).nox (aaU st) t/\t {nx:=fun _ H'=>Q .non H',rt:=Q} (start N vs) H):DfMD P w K mg base C m (k+1) ps sp dvs:=by
 obtain⟨f,fd,ds,F1,hb,hv,hbd,hm⟩:=F.ex
 refine⟨⟨f,fd,ds,?_,hb,hv,hbd,hm⟩⟩
 obtain⟨oc,od,dV,kV,doc,pm,an,cdv,ct,osl,rfl,lk,hcd⟩:=F1.ex
 refine ax9 lk hcd S' len fun A outer s H vs Q E hr hsp=>?_
 obtain⟨t,h,q⟩:=hbody f cdv A outer s H vs Q E hr hsp
 exact⟨t,h.h.nox,q⟩
theorem aB7{f:Addr}{oc:Value}{od an:Option Addr}{osl:Array (Option Value)}{dV kV doc pm cdv ct:Value}{ds:List Value}
  (a:PySem.W.findIn K (.ref C) m=some (some (.ref f))) (i:PySem.W.isFn K (.ref f)=true) (l:K.lookup f=some ⟨oc,od,.func (PySem.W.fnOf m qual (aa7 st) (aaU st) (aaC st) dV kV doc pm an cdv ct),osl⟩)
  (c:PySem.W.codeIn K cdv qual=true) (k:PySem.W.keepIn K (.ref f)=true)
  (hb:Binds K (PySem.W.fnOf m qual (aa7 st) (aaU st) (aaC st) dV kV doc pm an cdv ct) ps []) (hv:Vals dvs ds) (hd:Binds K (PySem.W.fnOf m qual (aa7 st) (aaU st) (aaC st) dV kV doc pm an cdv ct) ps ds):FnMD K C m qual st ps dvs:=
 ⟨⟨f,_,ds,⟨⟨oc,od,dV,kV,doc,pm,an,cdv,ct,osl,rfl,l,c⟩,k⟩,hb,hv,hd,⟨a,i,k⟩⟩⟩
end
section
variable{X:Cx}{x:Str}{C:Addr}{k k':Nat}{ps:List Str}{sp:Sp}{p pos:Pos}{dvs:List V}
theorem eMkD(c:Cd X.K X.mg x C)(D:DfMD X.prog X.w X.K X.mg X.base C "__init__" k ps sp dvs)(hr:Room k' X.A)(hk:k+1<=k':=by decide)(hg:Gl X x:=by rfl)(hdb:(x==("__debug__":Str))=false:=by decide):
  E X (.Call (.Name x p) [] [] pos) (at8 C sp dvs E0 agB):=by
 obtain⟨f,fd,ds,F,_,hv,hb,hm⟩:=D.ex
 exact⟨axL ⟨c.makes,hm.at_,hm.fn,c.kp⟩ F (hr.mono hk) hg c.at_ hb hv ajW hdb⟩
end
theorem alF{H:Hp}{xo dx:Addr}{a b:HO}(nx:H xo=none)(ndx:H dx=none):Same H (upd (upd H dx a) xo b):=fun z u hb=>by
 rw[aaF (aaI hb nx),aaF (aaI hb ndx)]
 exact hb
theorem acY{H:Hp}{xo dx:Addr}{a b c:HO}(nx:H xo=none)(ndx:H dx=none):Same H (upd (upd (upd H dx a) xo b) xo c):=fun z u hb=>by
 rw[aaF (aaI hb nx)]
 exact alF nx ndx z u hb
theorem azJ{H:Hp}{xo dx:Addr}{a b c d:HO}(nx:H xo=none)(ndx:H dx=none):Same H (upd (upd (upd (upd H dx a) xo b) xo c) xo d):=fun z u hb=>by
 rw[aaF (aaI hb nx)]
 exact acY nx ndx z u hb
end L2
namespace L2
open PySem PyProof.Rows
noncomputable def aNE(p:Nat->Bool):Nat->Nat
 |0=>0
 |n+1=>aNE p n+(if p n=true then 2^n else 0)
@[irreducible] noncomputable def cnt(p:Nat->Bool)(n:Nat):Nat:=aNE p n
theorem akM(p:Nat->Bool):cnt p 0=0:=by rw[cnt];rfl
theorem alB(p:Nat->Bool)(n:Nat):cnt p (n+1)=cnt p n+(if p n=true then 2^n else 0):=by rw[cnt,cnt];rfl
theorem atH(p:Nat->Bool):∀n,cnt p n<2^n
 |0=>by rw[akM];decide
 |n+1=>by
  have h:=atH p n
  rw[alB,Nat.pow_succ]
  split<;>omega
theorem avA(p:Nat->Bool):∀n i,(cnt p n).testBit i=(decide (i<n)&&p i)
 |0,i=>by rw[akM];simp
 |n+1,i=>by
  have h:=atH p n
  have ih:=avA p n i
  rw[alB]
  by_cases hp:p n=true
  ·rw[if_pos hp,Nat.add_comm]
   rcases Nat.lt_trichotomy i n with hi | hi | hi
   ·rw[Nat.testBit_two_pow_add_gt hi,ih]
    simp[hi,Nat.lt_succ_of_lt hi]
   ·subst hi
    rw[Nat.testBit_two_pow_add_eq,ih]
    simp[hp]
   ·have h2:2^n+cnt p n<2^i:=aY (by rw[Nat.pow_succ];omega) (Nat.pow_le_pow_right (by decide) hi)
    rw[Nat.testBit_lt_two_pow h2]
    have:¬i<n+1:=by omega
    simp[this]
  ·rw[if_neg hp,Nat.add_zero,ih]
   by_cases e:i=n
   ·subst e
    simp[hp]
   ·have:(i<n+1)↔(i<n):=by omega
    simp[this]
noncomputable def tb(m:Int)(i:Nat):Bool:=m.toNat.testBit i
theorem aa6(k:Nat):((2^k:Nat):Int)=(2:Int)^k:=by rw[Int.natCast_pow];rfl
theorem aaS(k:Nat):(0:Int)<2^k:=by rw[←aa6];exact Int.natCast_pos.mpr (Nat.two_pow_pos k)
theorem auF{m:Int}(h:0<=m)(k:Nat):m / 2^k=((m.toNat >>> k:Nat):Int):=by
 obtain⟨n,rfl⟩:=cG h
 rw[bQ,Nat.shiftRight_eq_div_pow,←aa6,Int.natCast_ediv]
theorem auO(a b:Nat):Builtin.bitAnd (a:Int) (b:Int)=((a&&& b:Nat):Int):=bitAnd_pp (cW a) (cW b)
theorem ao7(a b:Nat):Builtin.bitOr (a:Int) (b:Int)=((a||| b:Nat):Int):=by
 rw[bitOr_and,auO]
 have:=nat_or_add_and a b
 omega
theorem ajT{m:Int}(h:0<=m)(k:Nat):(Builtin.bitAnd (m / 2^k) 1=1)↔tb m k=true:=by
 rw[auF h,show (1:Int)=((1:Nat):Int) from rfl,auO]
 unfold tb
 rw[Nat.testBit_eq_decide_div_mod_eq,Nat.shiftRight_eq_div_pow]
 have:m.toNat / 2^k&&& 1=m.toNat / 2^k%2:=Nat.and_two_pow_sub_one_eq_mod _ 1
 rw[this]
 simp only[dR]
 omega
theorem aoQ{a b:Int}(ha:0<=a)(hb:0<=b):0<=Builtin.bitAnd a b:=by rw[bitAnd_pp ha hb];exact cW _
theorem ak3{a b:Int}(ha:0<=a)(hb:0<=b):0<=Builtin.bitOr a b:=by
 obtain⟨x,rfl⟩:=cG ha
 obtain⟨y,rfl⟩:=cG hb
 rw[ao7]
 exact cW _
theorem akI{a b:Int}(ha:0<=a)(hb:0<=b)(i:Nat):tb (Builtin.bitAnd a b) i=(tb a i&&tb b i):=by
 unfold tb
 rw[bitAnd_pp ha hb,bQ,Nat.testBit_and]
theorem aq9{a b:Int}(ha:0<=a)(hb:0<=b)(i:Nat):tb (Builtin.bitOr a b) i=(tb a i||tb b i):=by
 obtain⟨x,rfl⟩:=cG ha
 obtain⟨y,rfl⟩:=cG hb
 unfold tb
 rw[ao7,bQ,Nat.testBit_or,bQ,bQ]
theorem asK(k i:Nat):tb (2^k) i=decide (k=i):=by
 unfold tb
 rw[←aa6,bQ,Nat.testBit_two_pow]
theorem abD(i:Nat):tb 0 i=false:=by unfold tb;simp
theorem ac5{a b:Int}(ha:0<=a)(hb:0<=b)(h:∀i,tb a i=tb b i):a=b:=by
 have:a.toNat=b.toNat:=Nat.eq_of_testBit_eq h
 omega
theorem apE{m:Int}(h:0<=m)(k i:Nat):tb (m*2^k) i=(decide (k<=i)&&tb m (i-k)):=by
 obtain⟨x,rfl⟩:=cG h
 unfold tb
 rw[←aa6,←Int.natCast_mul,bQ,bQ,←Nat.shiftLeft_eq,Nat.testBit_shiftLeft]
theorem adL{m:Int}(h:0<=m)(k i:Nat):tb (m / 2^k) i=tb m (k+i):=by
 rw[auF h]
 unfold tb
 rw[bQ,Nat.testBit_shiftRight]
theorem ae8{m:Int}{n i:Nat}(h:m<2^n)(hi:n<=i):tb m i=false:=by
 unfold tb
 refine Nat.testBit_lt_two_pow (aY ?_ (Nat.pow_le_pow_right (by decide) hi))
 by_cases h0:0<=m
 ·have:=aa6 n
  omega
 ·have:m.toNat=0:=by omega
  rw[this]
  exact Nat.two_pow_pos n
@[irreducible] noncomputable def mk_(p:Nat->Bool)(n:Nat):Int:=(cnt p n:Nat)
theorem anP(p:Nat->Bool)(n:Nat):mk_ p n=(cnt p n:Nat):=by rw[mk_]
theorem ax7(p:Nat->Bool)(n:Nat):0<=mk_ p n:=by rw[anP];exact cW _
theorem aCB(p:Nat->Bool):mk_ p 0=0:=by rw[anP,akM];rfl
theorem ayB(p:Nat->Bool)(n i:Nat):tb (mk_ p n) i=(decide (i<n)&&p i):=by
 unfold tb
 rw[anP,bQ,avA]
theorem auP(p:Nat->Bool)(n:Nat):mk_ p (n+1)=mk_ p n+(if p n=true then 2^n else 0):=by
 rw[anP,anP,alB,Int.natCast_add]
 split
 ·rw[aa6]
 ·rfl
theorem aCM(p:Nat->Bool)(n:Nat):mk_ p n<2^n:=by
 have:=atH p n
 have e:=aa6 n
 rw[anP]
 omega
theorem at9(n i:Nat):tb (2^n-1) i=decide (i<n):=by
 have h:=aa6 n
 have:((2:Int)^n-1).toNat=2^n-1:=by
  have:=Nat.two_pow_pos n
  omega
 unfold tb
 rw[this,Nat.testBit_two_pow_sub_one]
noncomputable def aK9(p:Nat->Bool)(lo:Int):Nat->List Int
 |0=>[]
 |n+1=>aK9 p lo n++(if p n=true then [lo+(n:Int)] else [])
@[irreducible] noncomputable def flt(p:Nat->Bool)(lo:Int)(n:Nat):List Int:=aK9 p lo n
theorem alT(p:Nat->Bool)(lo:Int):flt p lo 0=[]:=by rw[flt];rfl
theorem aCG{p:Nat->Bool}{lo:Int}{α:Type}{f:Int->α}:[]=(flt p lo 0).map f:=by rw[alT];rfl
theorem arJ(p:Nat->Bool)(lo:Int)(n:Nat):flt p lo (n+1)=flt p lo n++(if p n=true then [lo+(n:Int)] else []):=by rw[flt,flt];rfl
theorem apP{p:Nat->Bool}{lo:Int}{n:Nat}(h:p n=true):flt p lo (n+1)=flt p lo n++[lo+(n:Int)]:=by
 rw[arJ,if_pos h]
theorem apB{p:Nat->Bool}{lo:Int}{n:Nat}(h:p n=false):flt p lo (n+1)=flt p lo n:=by
 rw[arJ,h,if_neg a9,cJ]
theorem flt_mem{p:Nat->Bool}{lo z:Int}:∀{n:Nat},z∈flt p lo n↔∃i,i<n/\p i=true/\z=lo+(i:Int)
 |0=>by rw[alT];exact⟨fun h=>(nomatch h),fun ⟨i,h,_⟩=>absurd h (Nat.not_lt_zero i)⟩
 |n+1=>by
  by_cases c:p n=true
  ·rw[apP c,bH,flt_mem,bI]
   refine⟨fun h=>?_,fun ⟨i,h1,h2,h3⟩=>?_⟩
   ·rcases h with ⟨i,h1,h2,h3⟩ | h
    ·exact⟨i,by omega,h2,h3⟩
    ·exact⟨n,by omega,c,h⟩
   ·by_cases e:i=n
    ·subst e;exact .inr h3
    ·exact .inl ⟨i,by omega,h2,h3⟩
  ·rw[apB (by simpa using c),flt_mem]
   refine⟨fun ⟨i,h1,h2,h3⟩=>⟨i,by omega,h2,h3⟩,fun ⟨i,h1,h2,h3⟩=>⟨i,?_,h2,h3⟩⟩
   have:i≠n:=fun e=>c (e▸h2)
   omega
theorem aF1{p:Nat->Bool}{lo:Int}{n k:Nat}(h:∀i,n<=i->p i=false)(hk:n<=k):flt p lo k=flt p lo n:=by
 obtain⟨d,rfl⟩:=Nat.exists_eq_add_of_le hk
 clear hk
 induction d with
 |zero=>rfl
 |succ d ih=>rw[show n+(d+1)=(n+d)+1 from rfl,apB (h _ (by omega)),ih]
noncomputable def aaN(zs:List Int):Int:=zs.foldl (fun a z=>Builtin.bitOr a (1*2^z.toNat)) 0
theorem asS(zs:List Int)(z:Int):aaN (zs++[z])=Builtin.bitOr (aaN zs) (1*2^z.toNat):=by unfold aaN;rw[List.foldl_append];rfl
theorem ao3:∀(zs:List Int) (a:Int),0<=a->0<=zs.foldl (fun a z=>Builtin.bitOr a (1*2^z.toNat)) a/\∀i,tb (zs.foldl (fun a z=>Builtin.bitOr a (1*2^z.toNat)) a) i=(tb a i||zs.any fun z=>decide (z.toNat=i))
 |[],a,h=>⟨h,fun i=>by simp⟩
 |z::zs,a,h=>by
  have e:(1*2^z.toNat:Int)=2^z.toNat:=by omega
  have p:=bN (aaS z.toNat)
  obtain⟨h1,h2⟩:=ao3 zs (Builtin.bitOr a (1*2^z.toNat)) (by rw[e];exact ak3 h p)
  refine⟨h1,fun i=>?_⟩
  show tb (zs.foldl _ (Builtin.bitOr a (1*2^z.toNat))) i=_
  rw[h2 i,e,aq9 h p,asK,cI,Bool.or_assoc]
theorem aeV(zs:List Int):0<=aaN zs:=(ao3 zs 0 (aV 0)).1
theorem agU(zs:List Int)(i:Nat):tb (aaN zs) i=zs.any fun z=>decide (z.toNat=i):=by
 have h:=(ao3 zs 0 (aV 0)).2 i
 rw[abD,Bool.false_or] at h
 exact h
theorem aAS{m:Int}(h:0<=m):m<2^Builtin.Int.intBits m:=by
 unfold Builtin.Int.intBits
 split
 ·rename_i c
  have:m=0:=by simpa using c
  rw[this]
  decide
 ·have:=Nat.lt_log2_self (n:=m.natAbs)
  have e:=aa6 (m.natAbs.log2+1)
  omega
theorem aoV{m:Int}{n:Nat}(h:0<=m)(hn:m<2^n):Builtin.Int.intBits m<=n:=by
 unfold Builtin.Int.intBits
 split
 ·exact bO _
 ·rename_i c
  have h0:m≠0:=by simpa using c
  have e:=aa6 n
  have:m.natAbs.log2<n:=(Nat.log2_lt (by omega)).mpr (by omega)
  omega
noncomputable def aqB(m:Int):List Int:=flt (tb m) 0 (Builtin.Int.intBits m)
theorem ajL{m:Int}{n:Nat}(h:0<=m)(hn:m<2^n):aqB m=flt (tb m) 0 n:=
 (aF1 (fun i hi=>ae8 (aAS h) hi) (aoV h hn)).symm
theorem aAG{m:Int}(h:0<=m)(k:Nat):decide (Builtin.bitAnd (m / 2^k) 1=1)=tb m k:=by
 by_cases c:tb m k=true
 ·rw[c];exact dQ ((ajT h _).mpr c)
 ·have c':tb m k=false:=by simpa using c
  rw[c'];exact dU fun q=>c ((ajT h _).mp q)
end L2
namespace L2
open PySem PyProof.Rows
theorem aH2{a b:Int}{n:Nat}(ha:0<=a)(hb:0<=b)(h1:a<2^n)(h2:b<2^n):Builtin.bitOr a b<2^n:=by
 obtain⟨x,rfl⟩:=cG ha
 obtain⟨y,rfl⟩:=cG hb
 have e:=aa6 n
 have:x||| y<2^n:=Nat.or_lt_two_pow (by omega) (by omega)
 rw[ao7]
 omega
section
variable{X:Cx}{tg:Expr}
theorem auA{a b c:Int}(hc:0<c):0<=Builtin.Range.rangeSize a b c:=by
 unfold Builtin.Range.rangeSize
 rw[if_pos hc]
 split
 ·have:0<=(b-a-1) / c:=dA (by omega) (by omega)
  omega
 ·exact aV 0
end
noncomputable def azF(a:Addr)(lo hi st:Int):HO:=.ext fun h=>∃t u v,h.get? a=some {cls:=.type "range",data:=.fields #[.int lo t,.int hi u,.int st v]}
section
variable{X:Cx}
theorem aq6{pins:List (Addr×Obj)}{σ:St}{H:Hp}{s:Shared}{Q:VK}{lo hi st:Int}{t u v:Tok}{tk:Nat}(I:Inv X pins σ H s)(q:∀p,H p=none->Q (.ref p) (upd H p (azF p lo hi st))):
  EP X pins σ Q (.ref s.heap.objs.size) {s with heap:=s.heap.push {cls:=.type "range",data:=.fields #[.int lo t,.int hi u,.int st v]},toks:=tk}:=by
 refine⟨.ref s.heap.objs.size,upd H s.heap.objs.size (azF s.heap.objs.size lo hi st),I.laid (t':=tk) (fun b u e=>aZ _ e) (aQ _) ?_,rfl,q _ (I.hok.fresh (aQ _))⟩
 have e:=bK s.heap (o:={cls:=.type "range",data:=.fields #[.int lo t,.int hi u,.int st v]}) rfl
 exact⟨⟨t,u,v,e⟩,⟨_,e⟩,fun h1 h2 ⟨t,u,v,z⟩ k=>⟨t,u,v,k _ z⟩⟩
theorem aIA:Cl1 X (.type "range") (fun xs H Q=>∃i j,xs=[.int i,.int j]/\∀p,H p=none->Q (.ref p) (upd H p (azF p i j 1))):=by
 refine⟨fun pins s σ H xs us Q I r h=>?_⟩
 obtain⟨i,j,rfl,q⟩:=h
 obtain⟨u,u',rfl,⟨t,rfl⟩,⟨t',rfl⟩⟩:=au0 r
 exact call_range_2 (aq6 I q)
theorem aBH:Cl1 X (.type "range") (fun xs H Q=>∃i j c,xs=[.int i,.int j,.int c]/\(0<c/\c<1073741824)/\∀p,H p=none->Q (.ref p) (upd H p (azF p i j c))):=by
 refine⟨fun pins s σ H xs us Q I r h=>?_⟩
 obtain⟨i,j,c,rfl,⟨c0,c1⟩,q⟩:=h
 cases r with
 |cons r rr=>
  cases rr with
  |cons r' rr=>
   cases rr with
   |cons r'' rr=>
    cases rr
    obtain⟨t,rfl⟩:=r
    obtain⟨t',rfl⟩:=r'
    obtain⟨t'',rfl⟩:=r''
    exact call_range_3 (Int.ne_of_gt c0) (aq6 I q) (.inl (PyProof.noPylong_small (by omega)))
theorem atX{lo st:Int}:∀{n:Nat} {acc:Array Value},ItemsOf (fun i v=>∃t,v=.int (lo+i*st) t) acc n->Vals ((List.range n).map fun i:Nat=>V.int (lo+i*st)) acc.toList:=by
 intro n acc h
 obtain⟨hz,hi⟩:=h
 have key:∀(m:Nat),m<=n->Vals ((List.range m).map fun i:Nat=>V.int (lo+i*st)) (acc.toList.take m):=by
  intro m
  induction m with
  |zero=>intro _;exact .nil
  |succ m ih=>
   intro hm
   have hlt:m<acc.toList.length:=by rw[Array.length_toList];omega
   obtain⟨t,e⟩:=hi m acc.toList[m] (by rw[←Array.getElem?_toList];exact cH hlt)
   rw[List.range_succ,bD,cE,cH hlt]
   exact (ih (by omega)).append (.cons ⟨t,e⟩ .nil)
 have:=key n (aQ _)
 rwa [dH (by rw[Array.length_toList];omega)] at this
theorem cLR(hc:X.calm=true:=by rfl):Cl1 X (.type "list") (fun xs H Q=>∃(p:Addr) (lo hi st:Int) (n:Nat),xs=[.ref p]/\H p=some (azF p lo hi st)/\Builtin.Range.small lo hi st=true/\Builtin.Range.rangeSize lo hi st=(n:Int)/\n<=100000/\
  ∀l,H l=none->Q (.ref l) (upd H l (.lst ((List.range n).map fun i:Nat=>V.int (lo+i*st))))):=by
 refine⟨fun pins s σ H xs us Q I r h=>?_⟩
 obtain⟨p,lo,hi,st,n,rfl,hp,hs,hn,hl,q⟩:=h
 obtain⟨u,rfl,rx⟩:=ac3 r
 cases rx
 obtain⟨⟨t,u,v,e⟩,_,_⟩:=I.hok p _ hp
 refine call_list_range (I.ok.hd hc) e hs hn (bE hl (by decide)) fun h' tk acc c' kp hS hI=>?_
 have hz:((List.range n).map fun i:Nat=>V.int (lo+i*st)).length<=sizeLine:=by
  rw[aR,dE,dN]
  omega
 exact⟨.ref s.heap.objs.size,_,I.laid (t':=tk) kp (aQ _) (show ObjOk X.prog X.w _ h' _ (.lst _) from ⟨hz,acc.toList,c',atX hI,by simpa using hS⟩),rfl,q _ (I.hok.fresh (aQ _))⟩
noncomputable def rBL:V->List V->Hp->VK->Prop:=fun x vs H Q=>∃i,x=.int i/\vs=[]/\Q (.int (Builtin.Int.intBits i:Nat)) H
theorem aHI:MtR X "int.bit_length" rBL:=by
 intro pins s σ H x xs v us Q I rx rv h
 obtain⟨i,rfl,rfl,q⟩:=h
 cases rv
 obtain⟨t,rfl⟩:=rx
 exact call_int_bit_length ⟨.int _,H,I.tok _,⟨_,rfl⟩,q⟩
theorem eBL{o:Expr}{to:TE}{apos cpos:Pos}(ho:E X o to)(hbase:attributeBase o "bit_length" X.env (eval o X.env)=eval o X.env:=by rfl)(hline:(apos.endLine==cpos.line)=true:=by rfl):
  E X (.Call (.Attribute o "bit_length" apos) [] [] cpos) (aE3 X.K "int" rBL to):=⟨azU PySem.F.plainAttrs_int PySem.F.slot_int_bit_length PySem.F.type_int_bit_length aHI ho.h hbase hline⟩
theorem cLst:Cl1 X (.type "list") (fun xs H Q=>∃p ys,xs=[.ref p]/\(SqL X.K H p ys∨SqT X.K H p ys)/\∀l,H l=none->Q (.ref l) (upd H l (.lst ys))):=⟨aoZ⟩
theorem ag5:Op2 X (compareOp .Is) (fun x y H Q=>y=.non/\Q (.bl (decide (x=.non))) H):=⟨aEG⟩
theorem aJ6:Op2 X (compareOp .IsNot) (fun x y H Q=>y=.non/\Q (.bl (!decide (x=.non))) H):=⟨aAL⟩
theorem oIn:Op2 X (compareOp .In) (rIn X.K false):=⟨awI⟩
end
theorem Same.none{H H':Hp}{D:Addr}(s:Same H H')(h:H' D=none):H D=none:=by
 cases e:H D with
 |none=>rfl
 |some o=>exact absurd (h.symm.trans (s _ _ e)) (by simp)
noncomputable def Keep(H H':Hp):Prop:=∀b o,(∀xs,o≠ .lst xs)->H b=some o->H' b=some o
theorem Same.keep{H H':Hp}(s:Same H H'):Keep H H':=fun b o _ h=>s b o h
theorem Keep.trans{H H1 H2:Hp}(a:Keep H H1)(b:Keep H1 H2):Keep H H2:=fun c o n h=>b c o n (a c o n h)
theorem agW{H:Hp}{D:Addr}{l l':List V}(h:H D=some (.lst l)):Keep H (upd H D (.lst l')):=fun b o n hb=>by
 by_cases e:b=D
 ·subst e
  rw[h] at hb
  cases hb
  exact absurd rfl (n l)
 ·rw[aaF e]
  exact hb
theorem Keep.tup{H H':Hp}(k:Keep H H'){b:Addr}{xs:List V}(h:H b=some (.tup xs)):H' b=some (.tup xs):=k b _ (fun _ z=>nomatch z) h
theorem Keep.ins{H H':Hp}(k:Keep H H'){b C dx:Addr}{fs:List (Str×V)}(h:H b=some (.ins C dx fs)):H' b=some (.ins C dx fs):=k b _ (fun _ z=>nomatch z) h
section
variable{js:List Nat}{σ:St}{tt:TT}{te:TE}{Q:VK}{H1:Hp}
end
section
variable{X:Cx}{K:FG}
end
inductive Kd where
 |int | bool | str | non | list | tuple | dict
noncomputable def Kd.nm:Kd->String
 |.int=>"int" | .bool=>"bool" | .str=>"str" | .non=>"NoneType" | .list=>"list" | .tuple=>"tuple" | .dict=>"dict"
noncomputable def Kd.isa:Kd->Kd->Bool
 |.int,.int=>true | .bool,.int=>true | .bool,.bool=>true | .str,.str=>true | .list,.list=>true | .tuple,.tuple=>true | .dict,.dict=>true | _,_=>false
noncomputable def KindV(K:FG)(H:Hp):V->Kd->Prop
 |.int _,k=>k=.int
 |.bl _,k=>k=.bool
 |.str _,k=>k=.str
 |.non,k=>k=.non
 |.ref a,k=>(k=.list/\∃xs,SqL K H a xs)∨(k=.tuple/\∃xs,SqT K H a xs)∨(k=.dict/\∃kvs,H a=some (.dK kvs))
 |_,_=>False
theorem cIs{X:Cx}:Cl1 X (.builtin "isinstance") (fun xs H Q=>∃(v:V) (n k:Kd),xs=[v,.ty n.nm]/\n.nm≠"NoneType"/\KindV X.K H v k/\Q (.bl (Kd.isa k n)) H):=by
 refine⟨fun pins s σ H xs us Q I r h=>?_⟩
 obtain⟨v,n,k,rfl,hn,hk,q⟩:=h
 obtain⟨u,w',rfl,r1,r2⟩:=au0 r
 cases r2
 have fin:∀tk,EP X pins σ Q (.bool (Kd.isa k n)) {s with toks:=tk}:=fun tk=>⟨.bl _,H,I.tok _,rfl,q⟩
 have fin0:EP X pins σ Q (.bool (Kd.isa k n)) s:=⟨.bl _,H,I,rfl,q⟩
 cases v with
 |int i=>
  obtain⟨t,rfl⟩:=r1
  cases (show k=Kd.int from hk)
  cases n with
  |int=>exact PySem.IsiPair.int_int fin0
  |bool=>exact PySem.IsiPair.int_bool (fin _)
  |str=>exact PySem.IsiPair.int_str (fin _)
  |list=>exact PySem.IsiPair.int_list (fin _)
  |tuple=>exact PySem.IsiPair.int_tuple (fin _)
  |dict=>exact PySem.IsiPair.int_dict (fin _)
  |non=>exact absurd rfl hn
 |bl b=>
  cases r1
  cases (show k=Kd.bool from hk)
  cases n with
  |int=>exact PySem.IsiPair.bool_int fin0
  |bool=>exact PySem.IsiPair.bool_bool fin0
  |str=>exact PySem.IsiPair.bool_str (fin _)
  |list=>exact PySem.IsiPair.bool_list (fin _)
  |tuple=>exact PySem.IsiPair.bool_tuple (fin _)
  |dict=>exact PySem.IsiPair.bool_dict (fin _)
  |non=>exact absurd rfl hn
 |str x=>
  obtain⟨t,rfl⟩:=r1
  cases (show k=Kd.str from hk)
  cases n with
  |int=>exact PySem.IsiPair.str_int (fin _)
  |bool=>exact PySem.IsiPair.str_bool (fin _)
  |str=>exact PySem.IsiPair.str_str fin0
  |list=>exact PySem.IsiPair.str_list (fin _)
  |tuple=>exact PySem.IsiPair.str_tuple (fin _)
  |dict=>exact PySem.IsiPair.str_dict (fin _)
  |non=>exact absurd rfl hn
 |non=>
  cases r1
  cases (show k=Kd.non from hk)
  cases n with
  |int=>exact PySem.IsiPair.NoneType_int (fin _)
  |bool=>exact PySem.IsiPair.NoneType_bool (fin _)
  |str=>exact PySem.IsiPair.NoneType_str (fin _)
  |list=>exact PySem.IsiPair.NoneType_list (fin _)
  |tuple=>exact PySem.IsiPair.NoneType_tuple (fin _)
  |dict=>exact PySem.IsiPair.NoneType_dict (fin _)
  |non=>exact absurd rfl hn
 |ref a=>
  cases r1
  rcases hk with ⟨rfl,ys,hq⟩ | ⟨rfl,ys,hq⟩ | ⟨rfl,kvs,hq⟩
  ·obtain⟨its,rv,pl,_⟩:=I.list hq
   obtain⟨o,ho,hc,_⟩:=pl.isList
   cases n with
   |int=>exact PySem.IsiPair.list_int ho hc (fin _)
   |bool=>exact PySem.IsiPair.list_bool ho hc (fin _)
   |str=>exact PySem.IsiPair.list_str ho hc (fin _)
   |list=>exact PySem.IsiPair.list_list ho hc fin0
   |tuple=>exact PySem.IsiPair.list_tuple ho hc (fin _)
   |dict=>exact PySem.IsiPair.list_dict ho hc (fin _)
   |non=>exact absurd rfl hn
  ·obtain⟨its,rv,⟨o,ho,hc,_⟩,_⟩:=I.tuple hq
   cases n with
   |int=>exact PySem.IsiPair.tuple_int ho hc (fin _)
   |bool=>exact PySem.IsiPair.tuple_bool ho hc (fin _)
   |str=>exact PySem.IsiPair.tuple_str ho hc (fin _)
   |list=>exact PySem.IsiPair.tuple_list ho hc (fin _)
   |tuple=>exact PySem.IsiPair.tuple_tuple ho hc fin0
   |dict=>exact PySem.IsiPair.tuple_dict ho hc (fin _)
   |non=>exact absurd rfl hn
  ·obtain⟨_,_,_,_,o,_,_,ho,ex,_⟩:=I.hok a _ hq
   cases n with
   |int=>exact PySem.IsiPair.dict_int ho ex.1 (fin _)
   |bool=>exact PySem.IsiPair.dict_bool ho ex.1 (fin _)
   |str=>exact PySem.IsiPair.dict_str ho ex.1 (fin _)
   |list=>exact PySem.IsiPair.dict_list ho ex.1 (fin _)
   |tuple=>exact PySem.IsiPair.dict_tuple ho ex.1 (fin _)
   |dict=>exact PySem.IsiPair.dict_dict ho ex.1 fin0
   |non=>exact absurd rfl hn
 |byt b=>exact False.elim hk
 |flt b=>exact False.elim hk
 |ty n=>exact False.elim hk
end L2
namespace L2
open PySem PySem.Spec PyProof.Rows PySem.Builtin PySem.Builtin.Str
noncomputable abbrev Tx(l:List Nat):Str:=⟨l.toArray⟩
theorem Tx_inj{a b:List Nat}:Tx a=Tx b↔a=b:=⟨fun h=>by
 have:(Tx a).cps.toList=(Tx b).cps.toList:=by rw[h]
 simpa using this,fun h=>by rw[h]⟩
theorem ayQ(x:Str):Tx x.cps.toList=x:=by cases x;simp
theorem abK(a:List Nat):(Tx a).length=a.length:=by simp[Str.length]
noncomputable def Itx(x:Str):It:=⟨fun i _=>i<x.cps.size,fun i H v H'=>H'=H/\∃c,x.cps[i]? =some c/\v=.str ⟨#[c]⟩,fun i _=>i=x.cps.size⟩
theorem avP{P:Program}{w:World}{K:FG}{tg:Expr}(x:Str)(t:Tok)(it:Addr):Turn P w K tg (Itx x) [it] it (fun i h=>h.IsStrIter it "str_ascii_iterator" x t i) where
 mem:=by simp
 obj:=fun i h st b hb=>by
  have e:b=it:=by simpa using hb
  subst e
  obtain⟨o,e,c,d⟩:=st
  exact⟨o,e,fun v z=>by rw[d] at z;cases z⟩
 keep:=fun i h h' st k=>by
  obtain⟨o,e,r⟩:=st
  exact⟨o,k it (by simp) o e,r⟩
 item:=by
  intro X hP hw hK hc i pins s σ H E I hf st hg
  subst hP hw hK
  obtain⟨f0,f1,f2,f3,f4,f5⟩:=hf it (by simp)
  have hg:i<x.cps.size:=hg
  refine wpAny_pyNext_ascii_item st (c:=x.cps[i]) (by simp[hg]) fun h' st' sb=>?_
  have I1:Inv X pins σ H {s with heap:=h',toks:=s.toks+1}:=I.turned (fun b o hb e=>sb.extBut b o hb e) f0 f1 f3 f4 f5
  obtain⟨o,e,c,d⟩:=id st'
  exact⟨_,rfl,aqN (s:={s with heap:=h',toks:=s.toks+1}) e c d (by decide) ⟨.str ⟨#[x.cps[i]]⟩,H,I1,⟨_,rfl⟩,⟨rfl,x.cps[i],by simp[hg],rfl⟩,st',fun b hb=>(hf b hb).1⟩⟩
 done:=by
  intro X hP hw hK hc i pins s σ H E I hf st hg
  subst hP hw hK
  obtain⟨f0,f1,f2,f3,f4,f5⟩:=hf it (by simp)
  have hg:i=x.cps.size:=hg
  exact wpAny_pyNext_ascii_end (I.ok.hd hc) st (by simp[hg]) fun h' eb=>⟨rfl,I.turned (t':=s.toks) (fun b o hb e=>eb b o hb e) f0 f1 f3 f4 f5⟩
 self:=fun _ _ _ _ _ st h=>wpAny_pyIter_striter_ascii st h
theorem aw0{P:Program}{w:World}{K:FG}{tg:Expr}(x:Str)(t:Tok)(it:Addr):Turn P w K tg (Itx x) [it] it (fun i h=>h.IsStrIter it "str_iterator" x t i) where
 mem:=by simp
 obj:=fun i h st b hb=>by
  have e:b=it:=by simpa using hb
  subst e
  obtain⟨o,e,c,d⟩:=st
  exact⟨o,e,fun v z=>by rw[d] at z;cases z⟩
 keep:=fun i h h' st k=>by
  obtain⟨o,e,r⟩:=st
  exact⟨o,k it (by simp) o e,r⟩
 item:=by
  intro X hP hw hK hc i pins s σ H E I hf st hg
  subst hP hw hK
  obtain⟨f0,f1,f2,f3,f4,f5⟩:=hf it (by simp)
  have hg:i<x.cps.size:=hg
  refine wpAny_pyNext_wide_item st (c:=x.cps[i]) (by simp[hg]) fun h' st' sb=>?_
  have I1:Inv X pins σ H {s with heap:=h',toks:=s.toks+1}:=I.turned (fun b o hb e=>sb.extBut b o hb e) f0 f1 f3 f4 f5
  obtain⟨o,e,c,d⟩:=id st'
  exact⟨_,rfl,aqN (s:={s with heap:=h',toks:=s.toks+1}) e c d (by decide) ⟨.str ⟨#[x.cps[i]]⟩,H,I1,⟨_,rfl⟩,⟨rfl,x.cps[i],by simp[hg],rfl⟩,st',fun b hb=>(hf b hb).1⟩⟩
 done:=by
  intro X hP hw hK hc i pins s σ H E I hf st hg
  subst hP hw hK
  obtain⟨f0,f1,f2,f3,f4,f5⟩:=hf it (by simp)
  have hg:i=x.cps.size:=hg
  exact wpAny_pyNext_wide_end (I.ok.hd hc) st (by simp[hg]) fun h' eb=>⟨rfl,I.turned (t':=s.toks) (fun b o hb e=>eb b o hb e) f0 f1 f3 f4 f5⟩
 self:=fun _ _ _ _ _ st h=>wpAny_pyIter_striter_wide st h
section
variable{X:Cx}{tg:Expr}
noncomputable def iTxt(tl:TE):TI:=fun σ H R=>tl σ H fun x H1=>∃z,x=.str z/\R (Itx z) H1
theorem iX{l:Expr}{tl:TE}(hl:E X l tl):Il X tg l (iTxt tl):=by
 refine⟨fun pins s σ H R I h=>?_⟩
 refine thn (hl.h pins s σ H _ I h) fun u s1 ⟨x,H1,I1,r1,q1⟩=>?_
 obtain⟨z,rfl,q⟩:=q1
 obtain⟨t,rfl⟩:=r1
 have fp:∀b∈[s1.heap.objs.size],adN X pins H1 b:=fun b hb=>by
  have e:b=s1.heap.objs.size:=by simpa using hb
  subst e
  exact I1.fpOk (aQ _) (I1.hok.fresh (aQ _))
 cases ha:z.cps.all (·<128)
 ·exact wpAny_pyIter_wide ha ⟨s1.heap.objs.size,[s1.heap.objs.size],_,_,H1,rfl,I1.kept (t':=s1.toks) fun b o e=>aZ _ e,aw0 z t _,⟨_,bK _ rfl,rfl,rfl⟩,fp,q⟩
 ·exact wpAny_pyIter_ascii ha ⟨s1.heap.objs.size,[s1.heap.objs.size],_,_,H1,rfl,I1.kept (t':=s1.toks) fun b o e=>aZ _ e,avP z t _,⟨_,bK _ rfl,rfl,rfl⟩,fp,q⟩
end
section
variable{js:List Nat}{σ:St}{tt:TT}{te:TE}{Q:VK}{H1:Hp}
theorem axI{xs:List Nat}(R:Nat->List V->Prop)(hn:xs.length<=sizeLine)(h0:R 0 [])
  (hs:∀(i:Nat) (c:Nat) (l:List V) (D:Addr) (H2:Hp) (E:V->Hp->Prop) (F:Hp->Prop),xs[i]? =some c->R i l->H1 D=none->Same H1 H2->H2 D=some (.lst l)->(∀y H5,Same H2 H5->R (i+1) (l++[y])->E y H5)->(∀H4,Same H2 H4->R (i+1) l->F H4)->
   tt (some (.str (Tx [c]))::aa4 js σ) H2 fun b H4=>if b=true then te (some (.str (Tx [c]))::aa4 js σ) H4 E else F H4)
  (hd:∀(D:Addr) (H2:Hp) (l:List V),R xs.length l->H1 D=none->Same H1 H2->H2 D=some (.lst l)->Q (.ref D) H2):avF (Itx (Tx xs)) js σ tt te Q H1:=by
 intro D hD
 have hz:(Tx xs).cps.size=xs.length:=by simp
 refine⟨fun i m H2=>m=xs.length-i/\i<=xs.length/\Same H1 H2/\∃l,H2 D=some (.lst l)/\l.length<=i/\R i l,⟨xs.length,by simp,bO _,aaB hD _,[],aaA,aQ _,h0⟩,?_⟩
 rintro i m H2 ⟨rfl,hi,s2,l,h2,hll,hR⟩
 by_cases hlt:i<xs.length
 ·refine .inr ⟨show i<(Tx xs).cps.size by rw[hz];exact hlt,fun v H3 y=>?_⟩
  obtain⟨e,c,ec,ev⟩:=y
  subst e ev
  refine hs i c l D _ _ _ (by simpa using ec) hR hD s2 h2 (fun z H5 s5 r5=>?_) (fun H4 s4 r4=>?_)
  ·refine⟨l,s5 _ _ h2,c9 hll (aY hlt hn),xs.length-(i+1),by omega,rfl,hlt,fun b o hb=>?_,l++[z],aaA,by rw[aU,bM];omega,r5⟩
   rw[aaF (aaI hb hD)]
   exact s5 _ _ (s2 _ _ hb)
  ·exact⟨xs.length-(i+1),by omega,rfl,hlt,s2.trans s4,l,s4 _ _ h2,by omega,r4⟩
 ·have e:i=xs.length:=by omega
  subst e
  exact .inl ⟨show xs.length=(Tx xs).cps.size by rw[hz],hd D H2 l hR hD s2 h2⟩
end
section
variable{X:Cx}
theorem arQ{prog:Program}{w:World}{A:Around}{its:Array Value}{bs:List Bool}(r:Vals (bs.map V.bl) its.toList):TruthOf prog w A (fun i v=>its[i]? =some v) (fun i=>bs.getD i false):=by
 intro i v s Q E hv hq
 have hv':its.toList[i]? =some v:=by rw[Array.getElem?_toList];exact hv
 have hi:i<bs.length:=by
  have h1:=r.length
  rw[aR] at h1
  rcases Nat.lt_or_ge i its.toList.length with z | z
  ·omega
  ·rw[List.getElem?_eq_none z] at hv';cases hv'
 obtain⟨u,hu,ru⟩:=r.get (i:=i) (x:=V.bl bs[i]) (by rw[bF,cH hi];rfl)
 rw[hv'] at hu
 cases hu
 cases ru
 have e:bs.getD i false=bs[i]:=by simp[List.getD,cH hi]
 have hq:Q (bs.getD i false) s:=hq
 rw[e] at hq
 exact dY hq
theorem awH(bs:List Bool):(List.range bs.length).all (fun i=>bs.getD i false)=bs.all id:=by
 rw[cN,bV,bV]
 refine⟨fun h b hb=>?_,fun h i hi=>?_⟩
 ·obtain⟨i,hi,e⟩:=List.getElem_of_mem hb
  have:=h i (cR.mpr hi)
  rw[show bs.getD i false=bs[i] by simp[List.getD,cH hi],e] at this
  exact this
 ·have hi:=cR.mp hi
  rw[show bs.getD i false=bs[i] by simp[List.getD,cH hi]]
  exact h _ (List.getElem_mem hi)
theorem aHK(hc:X.calm=true:=by rfl):Cl1 X (.builtin "all") (fun xs H Q=>∃(p:Addr) (bs:List Bool),xs=[.ref p]/\SqL X.K H p (bs.map V.bl)/\Q (.bl (bs.all id)) H):=by
 refine⟨fun pins s σ H xs us Q I r h=>?_⟩
 obtain⟨p,bs,rfl,hq,q⟩:=h
 obtain⟨u,rfl,r1⟩:=ac3 r
 cases r1
 obtain⟨its,rv,pl,hz⟩:=I.list hq
 have hne:p≠s.heap.objs.size:=by
  obtain⟨o,ho,_⟩:=pl.isList
  exact aX (aS ho)
 refine call_all_walk (wpAny_pyIter_list pl.isList ⟨s.heap.objs.size,[s.heap.objs.size,p],[s.heap.objs.size],its.toArray.size,(fun i v=>its.toArray[i]? =some v),(fun i h=>h.IsListIter s.heap.objs.size p i/\h.IsList p its.toArray),(fun i=>bs.getD i false),rfl,Walks.list (prog:=X.prog) (w:=X.w) (A:=X.A.in1) (I.ok.hd hc) _ p hne its.toArray,⟨⟨_,bK _ rfl,rfl,rfl⟩,pl.isList.push _⟩,arQ (by simpa using rv),fun h' tk hk=>?_⟩)
 have hl:=rv.length
 rw[aR] at hl
 have e:its.toArray.size=bs.length:=by rw[bB];omega
 rw[e,awH]
 exact⟨.bl _,H,I.kept fun b o eb=>hk b o (by simpa using aX (aS eb)) (aZ _ eb),rfl,q⟩
end
end L2
namespace L2
open PySem PySem.Spec PyProof.Rows PySem.Builtin PySem.Builtin.Str
noncomputable def spl(c:Nat):List Nat->List (List Nat)
 |[]=>[[]]
 |x::r=>if x=c then []::spl c r else match spl c r with
  |h::t=>(x::h)::t
  |[]=>[[x]]
noncomputable def aaY(c:Nat):List (List Nat)->List Nat
 |[]=>[]
 |[p]=>p
 |p::r=>p++c::aaY c r
theorem aEJ(c:Nat):∀l,spl c l≠[]
 |[]=>by simp[spl]
 |x::r=>by
  unfold spl
  split
  ·simp
  ·split<;>simp
theorem ac8(c:Nat):∀(p:List Nat),c∉p->spl c p=[p]
 |[],_=>rfl
 |x::r,h=>by
  have h1:¬x=c:=fun e=>h (by simp[e])
  have h2:=ac8 c r fun e=>h (by simp[e])
  unfold spl
  rw[if_neg h1,h2]
theorem ajR(c:Nat):∀(p r:List Nat),c∉p->spl c (p++c::r)=p::spl c r
 |[],r,_=>by
  show spl c (c::r)=_
  unfold spl
  rw[if_pos rfl]
  cases r<;>rfl
 |x::q,r,h=>by
  have h1:¬x=c:=fun e=>h (by simp[e])
  have h2:=ajR c q r fun e=>h (by simp[e])
  show spl c (x::(q++c::r))=_
  rw[spl,if_neg h1,h2]
theorem ad8(c:Nat):∀(ps:List (List Nat)),ps≠[]->(∀p∈ps,c∉p)->spl c (aaY c ps)=ps
 |[],h,_=>absurd rfl h
 |[p],_,h=>ac8 c p (h p (by simp))
 |p::q::r,_,h=>by
  show spl c (p++c::aaY c (q::r))=_
  rw[ajR c p _ (h p (by simp)),ad8 c (q::r) (by simp) fun z hz=>h z (bY _ hz)]
theorem apQ(c:Nat):∀ps:List Str,(Str.join (Tx [c]) ps).cps.toList=aaY c (ps.map (·.cps.toList))
 |[]=>rfl
 |[p]=>rfl
 |p::q::r=>by
  have ih:=apQ c (q::r)
  show (p++Tx [c]++Str.join (Tx [c]) (q::r)).cps.toList=p.cps.toList++c::aaY c ((q::r).map (·.cps.toList))
  rw[←ih]
  show ((p.cps++ #[c])++(Str.join (Tx [c]) (q::r)).cps).toList=_
  simp
theorem ayY(x y:Str)(h:Txt.split x y=[]):False:=by
 unfold Txt.split at h
 split at h
 ·cases h
 ·split at h
  ·cases h
  ·have e:=congrArg List.length h
   rw[length_partsBetween] at e
   simp at e
theorem axB(l:List Nat)(c:Nat):(Txt.split (Tx l) (Tx [c])).map (·.cps.toList)=spl c l:=by
 have h1:=StrLaws.join_split (Tx l) (Tx [c])
 have h2:=StrLaws.split_free (Tx l) c
 have h3:=apQ c (Txt.split (Tx l) (Tx [c]))
 rw[h1] at h3
 have e:aaY c ((Txt.split (Tx l) (Tx [c])).map (·.cps.toList))=l:=by rw[←h3]
 rw[←ad8 c ((Txt.split (Tx l) (Tx [c])).map (·.cps.toList)) (fun z=>ayY _ _ (List.map_eq_nil_iff.mp z)) ?_,e]
 intro p hp
 obtain⟨z,hz,rfl⟩:=bR.mp hp
 exact h2 z hz
theorem av9(l:List Nat)(c:Nat):Txt.split (Tx l) (Tx [c])=(spl c l).map Tx:=by
 rw[←axB,bZ]
 have:∀ps:List Str,ps=ps.map ((fun w:List Nat=>Tx w) ∘ fun x=>x.cps.toList):=fun ps=>by
  induction ps with
  |nil=>rfl
  |cons a r ih=>rw[bC,←ih];simp
 exact this _
theorem anW:∀l:List (Str×Tok),Vals (l.map fun p=>V.str p.1) (strValues l)
 |[]=>.nil
 |p::r=>.cons ⟨p.2,rfl⟩ (anW r)
section
variable{prog:Program}{w:World}{A:Around}{E:Value->Shared->Prop}{s:Shared}{x y:Str}{t u:Tok}{Q:Value->Shared->Prop}
theorem as8(hy:(y.length==0)=false)(hsz:x.length+2<=sizeLine)
  (h:∀l k,l.map (·.1)=Txt.split x y->Q (.ref s.heap.objs.size) {s with heap:=s.heap.push {cls:=.type "list",data:=.seq (strValues l).toArray},toks:=k}):
  wpAny (model prog w) A (call (.builtin "str.split") [.str x t,.str y u]) Q E s:=by
 have hn:(partsBetween x (occurrences x y 0 x.length (x.length+1)) y.length).length<=sizeLine:=by
  have e1:=StrLaws.occ_length_le x y 0 x.length (x.length+1)
  rw[length_partsBetween];omega
 cases h1:(decide (x.length<y.length)||decide (strKind x<strKind y))
 ·cases hf:(occurrences x y 0 x.length (x.length+1)).isEmpty
  ·refine call_meets F.slot_str_split (typeIs_str _ _ _) F.entry_str_split (F.args_str_split_2 _ _) (meets_str_split_sep x y t u h1 hy hf (by omega) hn) ?_
   show wants Q E _ {s with toks:=_,heap:=s.heap.push {cls:=.type "list",data:=.seq (strsFrom s.toks (partsBetween x (occurrences x y 0 x.length (x.length+1)) y.length)).toArray} }
   rw[strsFrom_eq]
   exact h (numbered s.toks _) _ ((numbered_texts _ _).trans ((if_neg (ne_true_of_eq_false h1)).trans (if_neg (ne_true_of_eq_false hf))).symm)
  ·exact call_meets F.slot_str_split (typeIs_str _ _ _) F.entry_str_split (F.args_str_split_2 _ _) (meets_str_split_not_found x y t u h1 hy hf)
    (h [(x,t)] s.toks ((if_neg (ne_true_of_eq_false h1)).trans (if_pos hf)).symm)
 ·exact call_meets F.slot_str_split (typeIs_str _ _ _) F.entry_str_split (F.args_str_split_2 _ _) (meets_str_split_cannot_occur x y t u h1)
   (h [(x,t)] s.toks (if_pos h1).symm)
end
theorem agV(c:Nat):∀l,(spl c l).length<=l.length+1
 |[]=>by simp[spl]
 |x::r=>by
  have ih:=agV c r
  unfold spl
  split
  ·simp;omega
  ·split
   ·rename_i e;rw[e] at ih;simp at ih ⊢;omega
   ·simp
section
variable{X:Cx}
noncomputable def aw3:V->List V->Hp->VK->Prop:=fun x vs H Q=>∃(l:List Nat) (c:Nat),x=.str (Tx l)/\vs=[.str (Tx [c])]/\l.length+2<=sizeLine/\∀p,H p=none->Q (.ref p) (upd H p (.lst ((spl c l).map fun q=>V.str (Tx q))))
theorem ayM:MtR X "str.split" aw3:=by
 intro pins s σ H x xs v us Q I rx rv h
 obtain⟨l,c,rfl,rfl,hz,q⟩:=h
 obtain⟨u,rfl,t',rfl⟩:=ac3 rv
 obtain⟨t,rfl⟩:=rx
 refine as8 (by rfl) (by rw[abK];exact hz) fun ps k e=>?_
 have e2:ps.map (fun p=>V.str p.1)=(spl c l).map fun q=>V.str (Tx q):=by
  have:=congrArg (List.map V.str) e
  rw[av9,bZ,bZ] at this
  exact this
 have hl:((spl c l).map fun q=>V.str (Tx q)).length<=sizeLine:=by
  have:=agV c l
  rw[aR]
  omega
 refine⟨.ref s.heap.objs.size,upd H s.heap.objs.size (.lst ((spl c l).map fun q=>V.str (Tx q))),I.laid (t':=k) (fun b u e=>aZ _ e) (aQ _) ?_,rfl,q _ (I.hok.fresh (aQ _))⟩
 exact⟨hl,strValues ps,0,by rw[←e2];exact anW ps,bK _ rfl⟩
theorem avT{o e:Expr}{to te:TE}{apos cpos:Pos}(ho:E X o to)(he:E X e te)(hbase:attributeBase o "split" X.env (eval o X.env)=eval o X.env:=by rfl)
  (hfew:((backTo cpos (starEach [e] X.env)).all (fun x=> !x.1)&&(backToKw cpos (keywordEach [] X.env)).all (fun x=>x.1.isSome)&&decide (([e]:List Expr).length+([]:List Keyword).length+(if ([]:List Keyword).isEmpty then 0 else 1)<30))=true:=by rfl)
  (hline:(apos.endLine==cpos.line)=true:=by rfl) (hs:starEach [e] X.env=(false,eval e X.env)::starEach [] X.env:=by rfl) (hplain:(backTo cpos (starEach [] X.env)).any (·.1)=false:=by rfl):
  E X (.Call (.Attribute o "split" apos) [e] [] cpos) (tBM X.K "str" aw3 to (af1 te agB)):=
 ⟨arA PySem.F.plainAttrs_str PySem.F.slot_str_split PySem.F.type_str_split ayM ho.h (ac4 he.h aeT hs) hbase hfew hline hs hplain⟩
theorem oInX:Op2 X (compareOp .In) (fun x y H Q=>∃(c:Nat) (l:List Nat),x=.str (Tx [c])/\y=.str (Tx l)/\Q (.bl (decide (c∈l))) H):=by
 refine⟨fun pins s σ H x y v u Q I rx ry h=>?_⟩
 obtain⟨c,l,rfl,rfl,q⟩:=h
 refine awG pins s σ H _ _ v u Q I rx ry ⟨_,_,rfl,rfl,?_⟩
 rw[show (!(occurrences (Tx l) (Tx [c]) 0 (Tx l).length 1).isEmpty)=decide (c∈(Tx l).cps.toList) from StrLaws.found_one (Tx l) c]
 exact q
theorem aw7:Cl1 X (.builtin "len") (fun xs H Q=>∃l:List Nat,xs=[.str (Tx l)]/\l.length<=sizeLine/\Q (.int l.length) H):=by
 refine⟨fun pins s σ H xs us Q I r h=>?_⟩
 obtain⟨l,rfl,hz,q⟩:=h
 refine aoU pins s σ H _ us Q I r ⟨Tx l,rfl,by rw[abK];exact hz,?_⟩
 rw[abK]
 exact q
theorem acU:Op2 X (binaryOp .Add) (fun x y H Q=>∃a b:List Nat,x=.str (Tx a)/\y=.str (Tx b)/\a.length+b.length<=sizeLine/\Q (.str (Tx (a++b))) H):=by
 refine⟨fun pins s σ H x y v u Q I rx ry h=>?_⟩
 obtain⟨a,b,rfl,rfl,hz,q⟩:=h
 refine asZ pins s σ H _ _ v u Q I rx ry ⟨_,_,rfl,rfl,by rw[abK,abK];exact hz,?_⟩
 have e:Tx a++Tx b=Tx (a++b):=by show Str.mk _=Str.mk _;simp
 rw[e]
 exact q
theorem xX:Ixs X (fun x y H Q=>∃(l:List Nat) (i:Int) (c:Nat),x=.str (Tx l)/\y=.int i/\l.length<=sizeLine/\atI l i=some c/\Q (.str (Tx [c])) H):=by
 refine⟨fun value slice pins s σ H x y v u Q I rx ry h hs=>?_⟩
 obtain⟨l,i,c,rfl,rfl,hz,ha,q⟩:=h
 exact aD2 value slice pins s σ H _ _ v u Q I rx ry ⟨Tx l,i,c,rfl,rfl,by rw[abK];exact hz,by simpa using ha,q⟩ hs
end
end L2
namespace L2
open PySem PySem.Spec PyProof.Rows PySem.Builtin PySem.Builtin.Str
section
variable{X:Cx}{pins:List (Addr×Obj)}{σ:St}{H:Hp}{s:Shared}{h':Heap}
theorem Inv.turnT{ch:List Addr}{T:Addr}{o:HO}{t':Nat}(I:Inv X pins σ H s)(k:∀b u,b∉ch->s.heap.get? b=some u->h'.get? b=some u)(hch:∀b∈ch,adN X pins H b)(hT:s.heap.objs.size<=T)(new:ObjOk X.prog X.w (upd H T o) h' T o):
  Inv X pins σ (upd H T o) {s with heap:=h',toks:=t'}:=by
 have hn:=I.hok.fresh hT
 have nit:∀b u,H b=some u->b∉ch:=fun b u e z=>by rw[(hch b z).1] at e;cases e
 refine I.step (g':=s.gens) (d':=s.drawn) (ch:=ch) (fun b hb=>?_) (fun b u _ _ hc e _=>k b u hc e) (fun b u _ _ hc e _=>⟨u.slots,k b u hc e⟩) (fun b u _ e n=>?_)
  (fun b u hc e=>⟨u,k b u hc e⟩) (fun b xs e=>by rw[aaF (aaI e hn)];exact e) (fun b u xs e=>by rw[aaF (aaI e hn)];exact e) (fun b ps e=>⟨#[],by rw[aaF (aaI e hn),e];simp⟩) (fun m hm=>?_) (fun b u e=>?_) I.bare
 ·obtain⟨f0,f1,f2,f3,f4,f5⟩:=hch b hb
  exact⟨f3,f1,f4,f5⟩
 ·rw[aaF (aX (aY (aS e) hT))]
  exact n
 ·obtain⟨ob,es,ep,ho,r⟩:=hm
  exact⟨ob,es,ep,k _ ob (fun z=>(hch _ z).2.1 rfl) ho,r⟩
 ·by_cases hb:b=T
  ·subst hb;rw[aaA] at e;cases e;exact new
  ·rw[aaF hb] at e
   refine (I.hok b u e).stay (fun c v hc q=>k c v ?_ q) (fun c q=>by rw[aaF (aaI q hn)];exact q) fun c xs q=>by rw[aaF (aaI q hn)];exact q
   rcases hc with z | z
   ·rw[z];exact nit b u e
   ·exact nit c _ z
theorem Inv.turnN{ch:List Addr}{t':Nat}(I:Inv X pins σ H s)(k:∀b u,b∉ch->s.heap.get? b=some u->h'.get? b=some u)(hch:∀b∈ch,adN X pins H b):Inv X pins σ H {s with heap:=h',toks:=t'}:=by
 have nit:∀b u,H b=some u->b∉ch:=fun b u e z=>by rw[(hch b z).1] at e;cases e
 refine I.step (g':=s.gens) (d':=s.drawn) (ch:=ch) (fun b hb=>?_) (fun b u _ _ hc e _=>k b u hc e) (fun b u _ _ hc e _=>⟨u.slots,k b u hc e⟩) (fun b u _ e n=>n)
  (fun b u hc e=>⟨u,k b u hc e⟩) (fun b xs e=>e) (fun b u xs e=>e) (fun b ps e=>⟨#[],by rw[e];simp⟩) (fun m hm=>?_) (fun b u e=>?_) I.bare
 ·obtain⟨f0,f1,f2,f3,f4,f5⟩:=hch b hb
  exact⟨f3,f1,f4,f5⟩
 ·obtain⟨ob,es,ep,ho,r⟩:=hm
  exact⟨ob,es,ep,k _ ob (fun z=>(hch _ z).2.1 rfl) ho,r⟩
 ·refine (I.hok b u e).stay (fun c v hc q=>k c v ?_ q) (fun c q=>q) fun c xs q=>q
  rcases hc with z | z
  ·rw[z];exact nit b u e
  ·exact nit c _ z
end
noncomputable def Ite(K:FG)(a:Addr):It:=
 ⟨fun i H=>∃xs x,SqL K H a xs/\xs[i]? =some x,fun i H v H'=>∃T,v=.ref T/\H T=none/\∀xs,SqL K H a xs->∃x,xs[i]? =some x/\H'=upd H T (.tup [.int i,x]),fun i H=>∃xs,SqL K H a xs/\xs.length=i⟩
theorem av2{P:Program}{w:World}{K:FG}{es:List Expr}{kk:Nat}{pos:Pos}(a e it:Addr)(hne:e≠it):Turn P w K (.Tuple es kk pos) (Ite K a) [e,it] e (fun i h=>(∃old,IsEnum h e it i old)/\h.IsListIter it a i) where
 mem:=by simp
 obj:=fun i h st b hb=>by
  obtain⟨⟨old,he⟩,o,e1,c,d⟩:=st
  rcases aW.mp hb with z | z
  ·subst z
   exact⟨_,he,fun v q=>by
    have q':Data.fields _=Data.cell v:=q
    cases q'⟩
  ·have z:b=it:=by simpa using z
   subst z
   exact⟨o,e1,fun v q=>by rw[d] at q;cases q⟩
 keep:=fun i h h' st k=>by
  obtain⟨⟨old,he⟩,hit⟩:=st
  exact⟨⟨old,k e (by simp) _ he⟩,hit.at fun o q=>k it (by simp) o q⟩
 item:=by
  intro X hP hw hK hc i pins s σ H E I hf st hg
  subst hP hw hK
  obtain⟨xs,x,hq,hx⟩:=hg
  obtain⟨⟨old,he⟩,hit⟩:=st
  obtain⟨its,rv,p,hz⟩:=I.list hq
  obtain⟨u,hu,ru⟩:=rv.get hx
  refine wpAny_pyNext_enum_item he hit p.isList (x:=u) (by simpa using hu) hne fun h1 ho hit1 hT hsz hk=>?_
  refine⟨_,rfl,wpAny_letOwnedTupleGo_enum ho fun h2 he2 sb=>?_⟩
  have ele:e<s.heap.objs.size:=aS he
  have k2:∀b ob,b∉[e,it]->s.heap.get? b=some ob->h2.get? b=some ob:=fun b ob hb q=>by
   have n1:b≠e:=fun z=>hb (by simp[z])
   have n2:b≠it:=fun z=>hb (by simp[z])
   exact (sb.2 b n1).trans (hk b ob n1 n2 q)
  have hTn:s.heap.objs.size≠e:=Nat.ne_of_gt ele
  have hT2:h2.get? s.heap.objs.size=some {cls:=.type "tuple",data:=.seq #[.int i s.toks,u]}:=(sb.2 _ hTn).trans hT
  have hn:=I.hok.fresh (aQ s.heap.objs.size)
  have I2:Inv X pins σ (upd H s.heap.objs.size (.tup [.int i,x])) {s with heap:=h2,toks:=s.toks+1}:=I.turnT k2 hf (aQ _) ⟨by show 2<=sizeLine;decide,[.int i s.toks,u],.cons ⟨_,rfl⟩ (.cons ru .nil),⟨_,hT2,rfl,_,rfl⟩⟩
  refine⟨.ref s.heap.objs.size,_,I2,rfl,⟨s.heap.objs.size,rfl,hn,fun ys hy=>⟨x,by rw[I.list_inj hy hq];exact hx,rfl⟩⟩,⟨⟨_,by simpa using he2⟩,hit1.at fun o q=>(sb.2 it (Ne.symm hne)).trans q⟩,fun b hb=>?_⟩
  have hblt:b<s.heap.objs.size:=by
   rcases aW.mp hb with z | z
   ·rw[z];exact ele
   ·have z:b=it:=by simpa using z
    obtain⟨o,q,_⟩:=hit
    rw[z];exact aS q
  rw[aaF (aX hblt)]
  exact (hf b hb).1
 done:=by
  intro X hP hw hK hc i pins s σ H E I hf st hg
  subst hP hw hK
  obtain⟨xs,hq,hx⟩:=hg
  obtain⟨⟨old,he⟩,hit⟩:=st
  obtain⟨its,rv,p,hz⟩:=I.list hq
  have hl:=rv.length
  refine wpAny_pyNext_enum_end (I.ok.hd hc) he hit p.isList (by simp;omega) fun h' hk=>⟨rfl,?_⟩
  exact I.turnN (ch:=[e,it]) (t':=s.toks) (fun b ob hb q=>hk b ob (fun z=>hb (by simp[z])) q) hf
 self:=fun _ _ _ _ _ st h=>by
  obtain⟨⟨old,he⟩,_⟩:=st
  exact wpAny_pyIter_enum he h
section
variable{X:Cx}{es:List Expr}{kk:Nat}{tpos:Pos}
noncomputable def iEnu(K:FG)(tl:TE):TI:=fun σ H R=>tl σ H fun x H1=>∃a,x=.ref a/\(∃xs,SqL K H1 a xs)/\R (Ite K a) H1
theorem av7:bootBuiltins "enumerate"=some (.type "enumerate"):=by decide +kernel
theorem iE{l:Expr}{tl:TE}{p pos:Pos}(hm:X.mg "enumerate"=none)(hl:E X l tl)(hg:Gl X "enumerate":=by rfl)(hs:starEach [l] X.env=[(false,eval l X.env)]:=by rfl):
  Il X (.Tuple es kk tpos) (.Call (.Name "enumerate" p) [l] [] pos) (iEnu X.K tl):=by
 refine⟨fun pins s σ H R I h=>?_⟩
 have hA:PA X [l] (af1 tl agB):=ac4 hl.h aeT hs
 refine Call_ (ahS I hg hm av7 (PyProof.Rows.callWith_type1 (thn (hA pos pins s σ H (fun vs H1=>match vs with | [x]=>∃a,x=.ref a/\(∃xs,SqL X.K H1 a xs)/\R (Ite X.K a) H1 | _=>False) I ?_) fun us s1 ⟨vs,H1,I1,r1,q1⟩=>?_) hs rfl))
 ·exact h
 match vs,q1,r1 with
 |[x],q1,r1=>?_
 obtain⟨a,rfl,⟨xs,hq⟩,q⟩:=q1
 obtain⟨u,rfl,rx⟩:=ac3 r1
 cases rx
 obtain⟨its,rv,pl,hz⟩:=I1.list hq
 refine call_enumerate_list pl.isList fun h' he hit hsz hk=>?_
 refine wpAny_pyIter_enum he ?_
 have I2:Inv X pins σ H1 {s1 with heap:=h'}:=I1.kept (t':=s1.toks) hk
 have hne:s1.heap.objs.size+1≠s1.heap.objs.size:=Nat.ne_of_gt (Nat.lt_succ_self _)
 refine⟨s1.heap.objs.size+1,[s1.heap.objs.size+1,s1.heap.objs.size],_,_,H1,rfl,I2,av2 a _ _ hne,⟨⟨_,he⟩,hit⟩,fun b hb=>?_,q⟩
 have hb2:s1.heap.objs.size<=b:=by
  rcases aW.mp hb with z | z
  ·rw[z];exact Nat.le_succ _
  ·have z:b=s1.heap.objs.size:=by simpa using z
   rw[z];exact aQ _
 exact I1.fpOk hb2 (I1.hok.fresh hb2)
end
theorem alR{K:FG}{a:Addr}{xs:List V}{g:TG}{tb:TS}{D:Ends}{σ:St}{H:Hp}(Pv:Nat->St->Hp->Prop)(h0:Pv 0 σ H)(hl:∀i σ H,i<=xs.length->Pv i σ H->SqL K H a xs)
  (hs:∀i x σ H T,xs[i]? =some x->Pv i σ H->H T=none->g (.ref T) σ (upd H T (.tup [.int i,x])) fun σ2 H2=>tb {D with nx:=Pv (i+1),ct:=Pv (i+1),bk:=D.nx} σ2 H2) (hd:∀σ H,Pv xs.length σ H->D.nx σ H):
  ∃W:Nat->Nat->St->Hp->Prop,(∃m,W 0 m σ H)/\∀i m σ H,W i m σ H->
   ((Ite K a).stop i H/\D.nx σ H)∨((Ite K a).go i H/\∃N:St->Hp->Prop,(∀σ' H',N σ' H'->∃m',m'<m/\W (i+1) m' σ' H')/\∀x H',(Ite K a).yld i H x H'->g x σ H' fun σ2 H2=>tb {D with nx:=N,ct:=N,bk:=D.nx} σ2 H2):=by
 refine⟨fun i m σ H=>m=xs.length-i/\i<=xs.length/\Pv i σ H,⟨xs.length,by simp,bO _,h0⟩,?_⟩
 rintro i m σ H ⟨rfl,hi,p⟩
 have hq:=hl i σ H hi p
 by_cases hlt:i<xs.length
 ·refine .inr ⟨⟨xs,xs[i],hq,by simp[hlt]⟩,Pv (i+1),fun σ' H' p'=>⟨xs.length-(i+1),by omega,rfl,hlt,p'⟩,fun x H' y=>?_⟩
  obtain⟨T,rfl,hT,hy⟩:=y
  obtain⟨x,hx,rfl⟩:=hy xs hq
  exact hs i x σ H T hx p hT
 ·have e:i=xs.length:=by omega
  subst e
  exact .inl ⟨⟨xs,hq,rfl⟩,hd σ H p⟩
noncomputable def num(m:Nat):List Nat:=(Nat.toDigits 10 m).map Char.toNat
section
variable{X:Cx}
theorem aGP:Cl1 X (.type "int") (fun xs H Q=>∃l:List Nat,xs=[.str (Tx l)]/\PySem.NumText.AllDigits l/\l≠[]/\l.length<=640/\Q (.int ((PySem.NumText.digitsVal l:Nat):Int)) H):=by
 refine⟨fun pins s σ H xs us Q I r h=>?_⟩
 obtain⟨l,rfl,h1,h2,h3,q⟩:=h
 obtain⟨u,rfl,t,rfl⟩:=ac3 r
 refine PySem.W.KIN.call_text (PySem.intText_digits (x:=Tx l) (by simpa using h1) (by simpa using h2) (by rw[abK];omega)) (by rw[abK];exact h3) ?_
 exact⟨.int _,H,I.tok _,⟨_,rfl⟩,by simpa using q⟩
theorem acV:Cl1 X (.type "str") (fun xs H Q=>∃n:Nat,xs=[.int n]/\n<10^500/\Q (.str (Tx (num n))) H):=by
 refine⟨fun pins s σ H xs us Q I r h=>?_⟩
 obtain⟨n,rfl,hn,q⟩:=h
 refine agH pins s σ H _ us Q I r ⟨(n:Int),rfl,?_,?_⟩
 ·by_cases h0:n=0
  ·subst h0;decide
  ·have:n<2^1900:=aY hn (by decide +kernel)
   have:=(Nat.log2_lt h0).mpr this
   show (n:Int).natAbs.log2<1920
   simp only[Int.natAbs_natCast]
   omega
 ·have e:PySem.Str.ofString (toString (n:Int))=Tx (num n):=by
   rw[←ayQ (PySem.Str.ofString (toString (n:Int)))]
   exact congrArg (fun z=>Tx z) (PySem.W.KIN.signs_num n)
  show Q (.str (PySem.Str.ofString (toString (n:Int)))) H
  rw[e]
  exact q
end
end L2
namespace L2
open PySem PySem.Spec PyProof.Rows PySem.Builtin PySem.Builtin.Str
theorem ifT{b:Bool}{A B:Prop}(e:b=true)(h:A):if b=true then A else B:=by rw[if_pos e];exact h
theorem ifF{b:Bool}{A B:Prop}(e:b=false)(h:B):if b=true then A else B:=by rw[if_neg (by rw[e];exact a9)];exact h
theorem if2{b:Bool}{A B:Prop}(h1:b=true->A)(h2:b=false->B):if b=true then A else B:=by
 cases b
 ·exact ifF rfl (h2 rfl)
 ·exact ifT rfl (h1 rfl)
theorem azM(a b:List Nat):decide (V.str (Tx a)=V.str (Tx b))=decide (a=b):=decide_eq_decide.mpr ⟨fun h=>Tx_inj.mp (V.str.inj h),fun h=>by rw[h]⟩
section
variable{X:Cx}{pos:Pos}
theorem eSx{z:Str}{j}(l:List Nat)(h:z=Tx l:=by decide +kernel):E X (.Constant (.str z) j pos) (tC (.str (Tx l))):=by
 subst h
 exact⟨axE⟩
end
noncomputable def afQ(c:Nat):Bool:=decide (48<=c)&&decide (c<=57)
noncomputable def aFW:List Nat:=[48,49,50,51,52,53,54,55,56,57]
theorem ayG(c:Nat):decide (c∈aFW)=afQ c:=by
 unfold aFW afQ
 rw[cN,dR,bJ,dR,dR]
 simp
 omega
noncomputable def aoO(l:List Nat):Bool:= !decide (l=[])&&l.all afQ
noncomputable def isW(l:List Nat):Bool:=aoO l&&(decide (l=[48])|| !decide (l.headD 0=48))
noncomputable def dv(l:List Nat):Int:=((PySem.NumText.digitsVal l:Nat):Int)
noncomputable def aaZ(lo hi:Int)(l:List Nat):Option Int:=if isW l=true then (if lo<=dv l/\dv l<=hi then some (dv l) else none) else none
noncomputable def oV:Option Int->V
 |none=>.non
 |some n=>.int n
noncomputable def aiI(es:List (Option Int)):Option (Int×Int):=match es with
 |[some a]=>some (a,a)
 |[some a,some b]=>if b<a then none else some (a,b)
 |_=>none
noncomputable def aa3(lo hi:Int)(l:List Nat):Option (Int×Int):=if l=[42] then some (lo,hi) else aiI ((spl 45 l).map (aaZ lo hi))
@[irreducible] noncomputable def ab0(a b s:Int):List Int:=(List.range (Builtin.Range.rangeSize a (b+1) s).toNat).map fun i:Nat=>a+(i:Int)*s
theorem acH(a b s:Int):ab0 a b s=(List.range (Builtin.Range.rangeSize a (b+1) s).toNat).map fun i:Nat=>a+(i:Int)*s:=by rw[ab0]
noncomputable def ajF(a b s:Int):Int:=aaN (ab0 a b s)
noncomputable def abS(lo hi:Int)(r s:List Nat):Option Int:=
 match aa3 lo hi r,aaZ 1 99 s with
 |some (a,b),some st=>some (ajF a (if isW r=true then hi else b) st)
 |_,_=>none
noncomputable def aaJ(lo hi:Int)(l:List Nat):Option Int:=
 match spl 47 l with
 |[r,s]=>abS lo hi r s
 |_=>match aa3 lo hi l with
  |some (a,b)=>some (ajF a b 1)
  |none=>none
theorem asJ{l:List Nat}(h:isW l=true):PySem.NumText.AllDigits l/\l≠[]:=by
 unfold isW aoO at h
 rw[bJ,bJ] at h
 refine⟨fun c hc=>?_,fun e=>?_⟩
 ·have:=bV.mp h.1.2 c hc
  unfold afQ at this
  rw[bJ] at this
  exact⟨dP this.1,dP this.2⟩
 ·rw[dQ e] at h
  exact absurd h.1.1 (by decide)
theorem ajS{a b s:Int}(hs:0<s):Builtin.Range.rangeSize a (b+1) s=if a<=b then (b-a) / s+1 else 0:=by
 unfold Builtin.Range.rangeSize
 rw[if_pos hs]
 by_cases c:a<=b
 ·rw[if_pos c,if_pos (by omega),show b+1-a-1=b-a by omega]
 ·rw[if_neg c,if_neg (by omega)]
theorem apC{a b s z:Int}(hs:0<s):z∈ab0 a b s↔a<=z/\z<=b/\(z-a)%s=0:=by
 rw[acH,bR,ajS hs]
 refine⟨fun ⟨i,hi,e⟩=>?_,fun ⟨h1,h2,h3⟩=>?_⟩
 ·subst e
  by_cases c:a<=b
  ·rw[if_pos c,cR] at hi
   have hq:(i:Int)<=(b-a) / s:=by
    have:0<=(b-a) / s:=dA (by omega) (by omega)
    omega
   have hm:(i:Int)*s<=(b-a) / s*s:=Int.mul_le_mul_of_nonneg_right hq (by omega)
   have hd:(b-a) / s*s<=b-a:=Int.ediv_mul_le _ (by omega)
   have h0:0<=(i:Int)*s:=Int.mul_nonneg (by omega) (by omega)
   refine⟨by omega,by omega,?_⟩
   rw[show a+(i:Int)*s-a=(i:Int)*s by omega]
   exact Int.mul_emod_left _ _
  ·rw[if_neg c,cR] at hi
   exact absurd hi (by simp)
 ·rw[if_pos (by omega)]
  have hd:s*((z-a) / s)+(z-a)%s=z-a:=Int.mul_ediv_add_emod _ _
  rw[h3,Int.add_zero] at hd
  have h0:0<=(z-a) / s:=dA (by omega) (by omega)
  have hle:(z-a) / s<=(b-a) / s:=Int.ediv_le_ediv hs (by omega)
  refine⟨((z-a) / s).toNat,cR.mpr (by omega),?_⟩
  rw[bG h0,Int.mul_comm]
  omega
theorem adH{a b s:Int}(h0:0<=a)(h1:b<=1000)(hs:0<s):(Builtin.Range.rangeSize a (b+1) s).toNat<=1001/\Builtin.Range.rangeSize a (b+1) s=((Builtin.Range.rangeSize a (b+1) s).toNat:Int):=by
 have hz:=auA (a:=a) (b:=b+1) hs
 refine⟨?_,by omega⟩
 rw[ajS hs]
 split
 ·have:(b-a) / s<=b-a:=Int.ediv_le_self _ (by omega)
  omega
 ·decide
theorem adB{a b s:Int}(h0:0<=a)(ha:a<=1000)(h1: -1<=b)(hb:b<=1000)(hs:0<s)(hs2:s<=1000):Builtin.Range.small a (b+1) s=true:=by
 have hl:=adH h0 hb hs
 have hz:=auA (a:=a) (b:=b+1) hs
 unfold Builtin.Range.small
 simp only[Builtin.Range.rangeFitsLong,bJ,Bool.or_eq_true,dR,beq_iff_eq]
 refine⟨⟨⟨⟨?_,?_⟩,?_⟩,?_⟩,.inr ?_⟩
 ·exact⟨by omega,by omega⟩
 ·exact⟨by omega,by omega⟩
 ·exact⟨by omega,by omega⟩
 ·exact⟨by omega,by omega⟩
 ·rw[if_pos hs]
  simp only[bJ,dR]
  exact⟨by omega,by omega⟩
end L2
namespace L2
open PySem PySem.Spec PyProof.Rows PySem.Builtin PySem.Builtin.Str
theorem ap8{lo hi a:Int}{l:List Nat}(h:aaZ lo hi l=some a):lo<=a/\a<=hi:=by
 unfold aaZ at h
 split at h
 ·split at h
  ·rename_i c
   have:=a8 h
   omega
  ·cases h
 ·cases h
theorem ak2{lo hi a b:Int}{l:List Nat}(hle:lo<=hi)(h:aa3 lo hi l=some (a,b)):(lo<=a/\a<=hi)/\lo<=b/\b<=hi:=by
 unfold aa3 at h
 split at h
 ·cases h;omega
 ·have key:∀es:List (Option Int),(∀e∈es,∀x,e=some x->lo<=x/\x<=hi)->aiI es=some (a,b)->(lo<=a/\a<=hi)/\lo<=b/\b<=hi:=by
   intro es hb h
   match es,hb,h with
   |[some x],hb,h=>
    have h:some (x,x)=some (a,b):=h
    cases h
    have:=hb _ (by simp) a rfl
    exact⟨this,this⟩
   |[some x,some y],hb,h=>
    have h:(if y<x then none else some (x,y))=some (a,b):=h
    split at h
    ·cases h
    ·cases h
     exact⟨hb (some a) (by simp) a rfl,hb (some b) (by simp) b rfl⟩
   |[],_,h=>cases h
   |[none],_,h=>cases h
   |[none,y],_,h=>cases h
   |[some x,none],_,h=>cases h
   |x::y::u::r,_,h=>cases x<;>cases y<;>cases h
  refine key _ (fun e he x hx=>?_) h
  obtain⟨w,_,rfl⟩:=bR.mp he
  exact ap8 hx
noncomputable def orM(ms:List Int):Int:=ms.foldl (fun a m=>Builtin.bitOr a m) 0
theorem aeI(ms:List Int)(m:Int):orM (ms++[m])=Builtin.bitOr (orM ms) m:=by unfold orM;rw[List.foldl_append];rfl
theorem alL:∀(ms:List Int) (a:Int),0<=a->(∀m∈ms,0<=m)->0<=ms.foldl (fun a m=>Builtin.bitOr a m) a/\∀i,tb (ms.foldl (fun a m=>Builtin.bitOr a m) a) i=(tb a i||ms.any fun m=>tb m i)
 |[],a,h,_=>⟨h,fun i=>by simp⟩
 |m::ms,a,h,hm=>by
  have hp:=hm m (by simp)
  obtain⟨h1,h2⟩:=alL ms (Builtin.bitOr a m) (ak3 h hp) fun z hz=>hm z (by simp[hz])
  refine⟨h1,fun i=>?_⟩
  show tb (ms.foldl _ (Builtin.bitOr a m)) i=_
  rw[h2 i,aq9 h hp,cI,Bool.or_assoc]
theorem aeY{ms:List Int}(h:∀m∈ms,0<=m):0<=orM ms:=(alL ms 0 (aV 0) h).1
theorem adT{ms:List Int}(h:∀m∈ms,0<=m)(i:Nat):tb (orM ms) i=ms.any fun m=>tb m i:=by
 have:=(alL ms 0 (aV 0) h).2 i
 rw[abD,Bool.false_or] at this
 exact this
noncomputable def adO(lo hi:Int)(l:List Nat):List Int:=(spl 44 l).map fun w=>(aaJ lo hi w).getD 0
noncomputable def auI(lo hi:Int)(l:List Nat):Prop:=(spl 44 l).length<=40/\∀w∈spl 44 l,(aaJ lo hi w).isSome=true
theorem af6:∀n:Nat,n<100->isW (num n)=true/\dv (num n)=(n:Int)/\((num n).all fun c=>afQ c)=true/\(num n).length<=2:=by decide +kernel
theorem abH{n c:Nat}(h:n<100)(hc:afQ c=false):c∉num n:=fun hm=>by
 have:=bV.mp (af6 n h).2.2.1 c hm
 rw[hc] at this
 cases this
theorem aDN{n:Nat}(h:n<100):num n≠[42]:=fun e=>by
 have:=abH h (c:=42) (by decide)
 rw[e] at this
 exact this (by simp)
theorem ae7{n:Nat}{lo hi:Int}(h:n<100)(h1:lo<=n)(h2:(n:Int)<=hi):aaZ lo hi (num n)=some (n:Int):=by
 obtain⟨a,b,_⟩:=af6 n h
 unfold aaZ
 rw[if_pos a,b,if_pos ⟨h1,h2⟩]
theorem aD9{l:List Nat}{c:Nat}(hm:c∈l)(hc:afQ c=false):isW l=false:=by
 cases e:isW l
 ·rfl
 ·unfold isW aoO at e
  rw[bJ,bJ] at e
  have:=bV.mp e.1.2 c hm
  rw[hc] at this
  cases this
theorem auX{n:Nat}{lo hi:Int}(h:n<100)(h1:lo<=n)(h2:(n:Int)<=hi):aa3 lo hi (num n)=some ((n:Int),(n:Int)):=by
 unfold aa3
 rw[if_neg (aDN h),ac8 45 _ (abH h (by decide))]
 show aiI [aaZ lo hi (num n)]=_
 rw[ae7 h h1 h2]
 rfl
theorem auY{n m:Nat}{lo hi:Int}(h:n<100)(h':m<100)(h1:lo<=n)(h2:n<=m)(h3:(m:Int)<=hi):aa3 lo hi (num n++45::num m)=some ((n:Int),(m:Int)):=by
 unfold aa3
 rw[if_neg (fun e=>by (have:45∈num n++45::num m:=(by simp));rw[e] at this;simp at this),ajR 45 _ _ (abH h (by decide)),ac8 45 _ (abH h' (by decide))]
 show aiI [aaZ lo hi (num n),aaZ lo hi (num m)]=_
 rw[ae7 h h1 (by omega),ae7 h' (by omega) h3]
 show (if (m:Int)<n then none else some ((n:Int),(m:Int)))=_
 rw[if_neg (by omega)]
theorem aqM{lo hi:Int}:aa3 lo hi [42]=some (lo,hi):=by unfold aa3;rw[if_pos rfl]
theorem alQ{lo hi a b:Int}{r:List Nat}(hf:47∉r)(h:aa3 lo hi r=some (a,b)):aaJ lo hi r=some (ajF a b 1):=by
 unfold aaJ
 rw[ac8 47 r hf,h]
theorem alI{lo hi a b:Int}{r:List Nat}{s:Nat}(hf:47∉r)(h:aa3 lo hi r=some (a,b))(hs:s<100)(hs1:1<=s):aaJ lo hi (r++47::num s)=some (ajF a (if isW r=true then hi else b) s):=by
 unfold aaJ
 rw[ajR 47 r _ hf,ac8 47 _ (abH hs (by decide))]
 show abS lo hi r (num s)=_
 unfold abS
 rw[h,ae7 hs (by omega) (by omega)]
end L2
namespace L2
open PySem PySem.Spec PyProof.Rows PySem.Builtin PySem.Builtin.Str
theorem aqH:∀{ws:List (List Nat)} {vs:List Value},Vals (ws.map fun q=>V.str (Tx q)) vs->StrsAre vs (ws.map Tx)
 |[],[],_=>.nil
 |[],_::_,h=>nomatch h
 |_::_,[],h=>nomatch h
 |w::r,v::vs,.cons h t=>by
  obtain⟨k,rfl⟩:=h
  exact .cons (Tx w) k (aqH t)
theorem aAT(c:Nat)(ws:List (List Nat)):Txt.join (Tx [c]) (ws.map Tx)=Tx (aaY c ws):=by
 have e1:Txt.join (Tx [c]) (ws.map Tx)=Str.join (Tx [c]) (ws.map Tx):=StrLaws.glued_eq_join _ _
 have e2:=apQ c (ws.map Tx)
 rw[bZ] at e2
 have e3:ws.map ((fun x:Str=>x.cps.toList) ∘ Tx)=ws:=by
  have:∀l:List (List Nat),l.map ((fun x:Str=>x.cps.toList) ∘ Tx)=l:=fun l=>by
   induction l with
   |nil=>rfl
   |cons a r ih=>rw[bC,ih];simp
  exact this ws
 rw[e3] at e2
 rw[e1,←ayQ (Str.join (Tx [c]) (ws.map Tx)),e2]
theorem am0(c:Nat):∀ws:List (List Nat),(ws.map (·.length)).sum+ws.length=(aaY c ws).length+(if ws=[] then 0 else 1)
 |[]=>rfl
 |[p]=>by simp[aaY]
 |p::q::r=>by
  have ih:=am0 c (q::r)
  rw[if_neg (by simp)] at ih ⊢
  simp only[bC,List.sum_cons,bU,aaY,aU] at ih ⊢
  omega
section
variable{X:Cx}
noncomputable def aCO(K:FG):V->List V->Hp->VK->Prop:=fun x vs H Q=>∃(c:Nat) (p:Addr) (ws:List (List Nat)),x=.str (Tx [c])/\vs=[.ref p]/\SqL K H p (ws.map fun q=>V.str (Tx q))/\(aaY c ws).length<=1000000/\Q (.str (Tx (aaY c ws))) H
theorem aA1:MtR X "str.join" (aCO X.K):=by
 intro pins s σ H x xs v us Q I rx rv h
 obtain⟨c,p,ws,rfl,rfl,hq,hz,q⟩:=h
 obtain⟨u,rfl,r1⟩:=ac3 rv
 cases r1
 obtain⟨t,rfl⟩:=rx
 obtain⟨its,rv2,pl,hz2⟩:=I.list hq
 have hj:=am0 c ws
 have hw:((ws.map Tx).map (·.length)).sum+(ws.map Tx).length<=1048576:=by
  rw[bZ,aR]
  have e:ws.map ((fun x:Str=>x.length) ∘ Tx)=ws.map (·.length):=List.map_congr_left fun a _=>abK a
  rw[e]
  split at hj<;>omega
 refine join_listW pl.isList (ys:=ws.map Tx) (by simpa using aqH rv2) (by rw[abK];show 1<=16;decide) hw fun t' k=>?_
 refine⟨.str (Tx (aaY c ws)),H,I.kept (t':=k) fun _ _ e=>e,⟨t',by rw[aAT]⟩,q⟩
theorem auE{o e:Expr}{to te:TE}{apos cpos:Pos}(ho:E X o to)(he:E X e te)(hbase:attributeBase o "join" X.env (eval o X.env)=eval o X.env:=by rfl)
  (hfew:((backTo cpos (starEach [e] X.env)).all (fun x=> !x.1)&&(backToKw cpos (keywordEach [] X.env)).all (fun x=>x.1.isSome)&&decide (([e]:List Expr).length+([]:List Keyword).length+(if ([]:List Keyword).isEmpty then 0 else 1)<30))=true:=by rfl)
  (hline:(apos.endLine==cpos.line)=true:=by rfl) (hs:starEach [e] X.env=(false,eval e X.env)::starEach [] X.env:=by rfl) (hplain:(backTo cpos (starEach [] X.env)).any (·.1)=false:=by rfl):
  E X (.Call (.Attribute o "join" apos) [e] [] cpos) (tBM X.K "str" (aCO X.K) to (af1 te agB)):=
 ⟨arA PySem.F.plainAttrs_str PySem.F.slot_str_join PySem.F.type_str_join aA1 ho.h (ac4 he.h aeT hs) hbase hfew hline hs hplain⟩
theorem ag2:Op2 X (binaryOp .Add) (fun x y H Q=>∃(a b:Addr) (xs ys:List V),x=.ref a/\y=.ref b/\SqL X.K H a xs/\SqL X.K H b ys/\xs.length+ys.length<=sizeLine/\∀p,H p=none->Q (.ref p) (upd H p (.lst (xs++ys)))):=by
 refine⟨fun pins s σ H x y v u Q I rx ry h=>?_⟩
 obtain⟨a,b,xs,ys,rfl,rfl,ha,hb,hz,q⟩:=h
 cases rx
 cases ry
 obtain⟨i1,r1,p1,z1⟩:=I.list ha
 obtain⟨i2,r2,p2,z2⟩:=I.list hb
 obtain⟨⟨cls,dd,data,sl⟩,ho,hc,n,hd⟩:=p1.isList
 obtain⟨⟨cls2,dd2,data2,sl2⟩,ho2,hc2,n2,hd2⟩:=p2.isList
 simp only at hc hd hc2 hd2
 subst hc hd hc2 hd2
 have l1:=r1.length
 have l2:=r2.length
 refine concat_meets ⟨_,ho,rfl⟩ ⟨_,ho2,rfl⟩ noFill_list_add seq_list_add PySem.F.slot_list_add PySem.F.entry_list_add (PySem.F.args_list_add_2 _ _) (list_addW a b _ _ n n2 dd dd2 sl sl2 (by simp only[bB];omega)) ⟨ho,ho2,?_⟩
 refine⟨.ref s.heap.objs.size,upd H s.heap.objs.size (.lst (xs++ys)),I.laid (t':=s.toks) (fun b u e=>aZ _ e) (aQ _) ?_,rfl,q _ (I.hok.fresh (aQ _))⟩
 exact⟨by rw[aU];exact hz,i1++i2,0,r1.append r2,by simpa using bK _ rfl⟩
end
noncomputable def atW(J:It)(k:Nat)(js:List Nat)(g:TG)(σ:St)(tt:TT)(te:TE)(Q:VK)(H1:Hp):Prop:=∀D,H1 D=none->∃W:Nat->Nat->Hp->Prop,(∃m,W 0 m (upd H1 D (.lst [])))/\∀i m H2,W i m H2->
 (J.stop i H2/\Q (.ref D) H2)∨(J.go i H2/\∀v H3,J.yld i H2 v H3->∀τ:St,τ.length=k->g v (τ++aa4 js σ) H3 fun σ2 H3'=>(∃τ':St,τ'.length=k/\σ2=τ'++aa4 js σ)/\tt σ2 H3' fun b H4=>if b=true then
  te σ2 H4 fun y H5=>∃ys,H5 D=some (.lst ys)/\ys.length<sizeLine/\∃m',m'<m/\W (i+1) m' (upd H5 D (.lst (ys++[y])))
  else ∃m',m'<m/\W (i+1) m' H4)
noncomputable def azW(wi:TI)(k:Nat)(js:List Nat)(g:TG)(tt:TT)(te:TE):TE:=fun σ H Q=>wi σ H fun J H1=>atW J k js g σ tt te Q H1
section
variable{X:Cx}{elt iter tg:Expr}{xs:List Str}{y:Str}{py pos spos:Pos}{ifs:List Expr}{scope:Scope}{cl:List (Str×Addr)}{N':List Str}{js:List Nat}{tt:TT}{te:TE}{g:TG}{wi:TI}
theorem arD{pins:List (Addr×Obj)}{σ:St}{H:Hp}{s s4:Shared}{fp:List Addr}{C:Addr}{m4:Str->Option Value}(hcl:Clos X scope cl)(hN:js.map (fun j=>X.N[j]?)=N'.map some)
  (hk:N'.all (fun y=>(X.env.kindOf y==some .cell)||(X.env.kindOf y==some .free))=true) (hf:N'.all (fun y=>scope.names.lookup y==some .free)=true)
  (I:Inv X pins σ H s) (hfp:∀b∈fp,adN X pins H b/\b<s.heap.objs.size) (hC:C=s.heap.objs.size) (ho:s4.os=s.os) (hg:s4.gens=s.gens) (hkeep:∀b o,s.heap.get? b=some o->s4.heap.get? b=some o) (hn:s4.heap.Ns C m4):
  Inv (aaO X (xs++N') scope cl C fp pins s H) [] (List.replicate xs.length none++aa4 js σ) H s4:=by
 have hne:∀b o,s.heap.get? b=some o->b≠C:=fun b o e=>by rw[hC];exact aX (aS e)
 refine⟨⟨I.ok.mod,hcl.kind,I.ok.glob,I.ok.blt,Nat.le_of_eq hC.symm,fun y z c h1 h2=>I.ok.inj y z c (hcl.sub y c h1) (hcl.sub z c h2),fun y hy=>hcl.has y (am1 (fun z=>hcl.nocell _ (PySem.mem_of_lookup z) rfl) (by rw[←adE];exact hy)),fun y c h _=>(nomatch h),I.ok.hd,I.ok.frames,.inl rfl,fun b hb=>⟨?_,fun y c e=>(hfp b hb).1.2.2.2.2.1 y c (hcl.sub y c e)⟩,
  I.bs,bE I.ok.bsz I.sz,fun b o e hb=>?_,fun b hb hz=>?_,I.stack,I.stkFree⟩,ho,by rw[hg];exact I.bare,Un.kept hkeep,⟨m4,hn,fun i y v h1 h2 h3=>?_⟩,fun y c e=>?_,?_,fun y c e=>I.freeC y c (hcl.sub y c e),fun p hp=>?_,I.hok.kept hkeep,?_⟩
 ·rw[hC];exact aX (hfp b hb).2
 ·rcases (hfp b hb).1.2.2.2.1 with z | z
  ·exact I.ok.noex b o e z
  ·exact absurd (aY (aS e) (bE I.ok.bsz z)) (cD _)
 ·rcases aW.mp (I.stkSub b hz) with z | z
  ·exact (hfp b hb).1.2.1 z
  ·exact (hfp b hb).1.2.2.1 z
 ·by_cases hi:i<xs.length
  ·rw[List.getElem?_append_left (by rw[cZ];exact hi),List.getElem?_replicate,if_pos hi] at h2
   exact nomatch h2
  ·obtain⟨j0,rfl⟩:∃j0,i=xs.length+j0:=⟨i-xs.length,by omega⟩
   have h1:N'[j0]? =some y:=by
    have h1:(xs++N')[xs.length+j0]? =some y:=h1
    rw[List.getElem?_append_right (Nat.le_add_right _ _),Nat.add_sub_cancel_left] at h1
    exact h1
   have h2:(aa4 js σ)[j0]? =some (some v):=by rw[List.getElem?_append_right (by rw[cZ];exact Nat.le_add_right _ _),cZ,Nat.add_sub_cancel_left] at h2;exact h2
   generalize j0=i at h1 h2
   have hy:y∈N':=bL h1
   have q:(js.map (fun j=>X.N[j]?))[i]? =some (some y):=by rw[hN,bF,h1];rfl
   rw[bF] at q
   cases ej:js[i]? with
   |none=>rw[ej] at q;cases q
   |some j=>
    rw[ej] at q
    have q:X.N[j]? =some y:=a8 q
    unfold aa4 at h2
    rw[bF,ej] at h2
    have h2:(σ[j]?).getD none=some v:=a8 h2
    have h2:σ[j]? =some (some v):=by
     cases e:σ[j]? with
     |none=>rw[e] at h2;cases h2
     |some o=>rw[e] at h2;exact congrArg some h2
    have kk:=bV.mp hk y hy
    have kk:X.env.kindOf y=some .cell∨X.env.kindOf y=some .free:=by simpa using kk
    have ff:=bV.mp hf y hy
    have ff:scope.names.lookup y=some .free:=by simpa using ff
    obtain⟨m,_,hl⟩:=I.loc
    obtain⟨u,r,l⟩:=hl j y v q h2 (by rcases kk with z | z;exact .inr (.inl z);exact .inr (.inr z))
    refine⟨u,r,.inr ⟨agJ ff,?_⟩⟩
    obtain⟨c,hc⟩:=hcl.has y ff
    rcases l with ⟨z,_⟩ | ⟨_,c',e',cell⟩
    ·rcases kk with k | k<;>(rw[k] at z;cases z)
    ·rw[hcl.sub y c hc] at e'
     cases e'
     exact⟨c,hc,cell.keeps hkeep⟩
 ·obtain⟨v,q⟩:=I.cell y c (hcl.sub y c e)
  exact⟨v,q.keeps hkeep⟩
 ·show H C=none
  rw[hC]
  exact I.hok.fresh (aQ _)
 ·have hp:p∈X.pn++pins:=by
   have hp:p∈(X.pn++pins)++[]:=hp
   rwa [cJ] at hp
  obtain⟨e,n,ne,nf,d⟩:=I.pin p hp
  refine⟨hkeep _ _ e,n,hne _ _ e,fun z=>?_,d⟩
  rcases aW.mp (I.stkSub p.1 z) with z | z
  ·exact ne z
  ·exact nf z
 ·show (List.replicate xs.length none++aa4 js σ).length=(xs++N').length
  rw[aU,aU,cZ]
  have q:=congrArg List.length hN
  rw[aR,aR] at q
  unfold aa4
  rw[aR,q]
theorem awD{pins:List (Addr×Obj)}{σ σ':St}{H H':Hp}{s s':Shared}{fp:List Addr}{C:Addr}(I:Inv X pins σ H s)(hfp:∀b∈fp,adN X pins H b)(J:Inv (aaO X (xs++N') scope cl C fp pins s H) [] σ' H' s'):Inv X pins σ H' s':=
 I.call' (ch:=fp) J.os J.base J.hok J.bare fun b hb=>⟨(hfp b hb).2.2.2.1,(hfp b hb).2.1,(hfp b hb).2.2.2.2.1,(hfp b hb).2.2.2.2.2⟩
theorem arN{pins:List (Addr×Obj)}{σ:St}{H:Hp}{s:Shared}{Q:VK}{RR:Value->Addr->Result->Shared->Prop}{J:It}{fp:List Addr}{it:Addr}{tn:Nat->Heap->Prop}
  (hcl:Clos X scope cl) (hnd:(xs++N').Nodup) (hN:js.map (fun j=>X.N[j]?)=N'.map some)
  (hk:N'.all (fun y=>(X.env.kindOf y==some .cell)||(X.env.kindOf y==some .free))=true) (hf:N'.all (fun y=>scope.names.lookup y==some .free)=true) (hc:X.calm=true)
  (hg:∀(C:Addr) (ex:List Addr) (pins:List (Addr×Obj)) (s:Shared) (H:Hp),PG (aaO X (xs++N') scope cl C ex pins s H) tg g)
  (ht:∀(C:Addr) (ex:List Addr) (pins:List (Addr×Obj)) (s:Shared) (H:Hp),PF (aaO X (xs++N') scope cl C ex pins s H) ifs tt)
  (he:∀(C:Addr) (ex:List Addr) (pins:List (Addr×Obj)) (s:Shared) (H:Hp),PE (aaO X (xs++N') scope cl C ex pins s H) elt te)
  (I:Inv X pins σ H s) (T:Turn X.prog X.w X.K (tg) J fp it tn) (st:tn 0 s.heap) (hfp:∀b∈fp,adN X pins H b)
  (q:∀D,H D=none->∃W:Nat->Nat->Hp->Prop,(∃m,W 0 m (upd H D (.lst [])))/\∀i m H2,W i m H2->
   (J.stop i H2/\Q (.ref D) H2)∨(J.go i H2/\∀v H3,J.yld i H2 v H3->∀τ:St,τ.length=xs.length->g v (τ++aa4 js σ) H3 fun σ2 H3'=>(∃τ':St,τ'.length=xs.length/\σ2=τ'++aa4 js σ)/\tt σ2 H3' fun b H4=>if b=true then
    te σ2 H4 fun y H5=>∃ys,H5 D=some (.lst ys)/\ys.length<sizeLine/\∃m',m'<m/\W (i+1) m' (upd H5 D (.lst (ys++[y])))
    else ∃m',m'<m/\W (i+1) m' H4))
  (hRR:∀(D C:Addr) (s':Shared) (H':Hp) (m:Str->Option Value),Inv X pins σ H' s'->H' C=none->C≠X.env.locals->X.s₀.heap.objs.size<=C->(∀y c,X.env.cells.lookup y=some c->c≠C)->(∀p∈X.pn++pins,p.1≠C)->s'.heap.Ns C m->Q (.ref D) H'->RR (.ref D) C (.ok .next) s'):
  wpAny (model X.prog X.w) X.A (newList []) (fun acc s₃=>wpAny (model X.prog X.w) X.A (newFunctionEnv scope X.env.globals cl [] X.env.qual none .none (some X.env)) (fun cenv s₄=>
   codeAny (model X.prog X.w) X.A (.compStart (.ListComp elt [⟨tg,iter,ifs,0⟩] scope pos) 0 (.ref it) acc {cenv with scope:=relabel scope X.env}) (RR acc cenv.locals) s₄) X.xe s₃) X.xe s:=by
 refine wpAny_newObj_type ?_
 have hD:H s.heap.objs.size=none:=I.hok.fresh (aQ _)
 have I3:Inv X pins σ (upd H s.heap.objs.size (.lst [])) {s with heap:=s.heap.push {cls:=.type "list",dict:=none,data:=.seq ([]:List Value).toArray} }:=I.lnew (its:=[]) (t':=s.toks) .nil (bO _)
 have hfp3:∀b∈fp,adN X pins (upd H s.heap.objs.size (.lst [])) b/\b<(s.heap.push {cls:=.type "list",dict:=none,data:=.seq ([]:List Value).toArray}).objs.size:=fun b hb=>by
  obtain⟨o,ho,_⟩:=T.obj 0 _ st b hb
  have hlt:=aS ho
  obtain⟨f0,f1⟩:=hfp b hb
  exact⟨⟨by rw[aaF (aX hlt)];exact f0,f1⟩,by rw[Heap.size_push];exact Nat.lt_succ_of_lt hlt⟩
 have st3:tn 0 (s.heap.push {cls:=.type "list",dict:=none,data:=.seq ([]:List Value).toArray}):=T.keep _ _ _ st fun b _ o e=>aZ _ e
 obtain⟨W,⟨m0,w0⟩,turn⟩:=q s.heap.objs.size hD
 generalize hs3:({s with heap:=s.heap.push {cls:=.type "list",dict:=none,data:=.seq ([]:List Value).toArray} }:Shared)=s3 at I3 ⊢
 have hh3:s.heap.push {cls:=.type "list",dict:=none,data:=.seq ([]:List Value).toArray}=s3.heap:=by rw[←hs3]
 rw[hh3] at hfp3 st3
 generalize s.heap.objs.size=D at I3 hfp3 w0 turn hD ⊢
 generalize upd H D (.lst [])=H3 at I3 hfp3 w0
 refine wpAny_newFunctionEnv hcl.nocell (by intro y hy;simp at hy) (fun h₁ hns₁ hsb₁=>?_) hcl.kind
 have hkeep:∀b o,s3.heap.get? b=some o->h₁.get? b=some o:=fun b o e=>hsb₁.extBut b o (aX (aS e)) (aZ _ e)
 have J4:Inv (aaO X (xs++N') scope cl s3.heap.objs.size fp pins s3 H3) [] (List.replicate xs.length none++aa4 js σ) H3 {s3 with heap:=h₁,toks:=s3.toks+([]:List (Str×Value)).length}:=
  arD hcl hN hk hf I3 hfp3 rfl rfl rfl hkeep hns₁
 have st4:tn 0 h₁:=T.keep _ _ _ st3 fun b _ o e=>hkeep b o e
 have cell':∀{s':Shared} {σ':St} {H':Hp},Inv (aaO X (xs++N') scope cl s3.heap.objs.size fp pins s3 H3) [] σ' H' s'->Q (.ref D) H'->RR (.ref D) s3.heap.objs.size (.ok .next) s':=fun {s' σ' H'} J hq=>by
  obtain⟨m,hn,_⟩:=J.loc
  refine hRR D _ s' H' m (awD I3 (fun b hb=>(hfp3 b hb).1) J) J.free (Nat.ne_of_gt I3.lt) I3.sz (fun y c e z=>?_) (fun p hp z=>?_) hn hq
  ·obtain⟨v,k⟩:=I3.cell y c e
   exact absurd k.lt (by rw[z];exact cD _)
  ·exact absurd (aS (I3.pin p hp).1) (by rw[z];exact cD _)
 have fpX:∀{H':Hp},(∀b∈fp,H' b=none)->∀b∈fp,adN (aaO X (xs++N') scope cl s3.heap.objs.size fp pins s3 H3) [] H' b:=fun {H'} hn b hb=>by
  obtain⟨⟨f0,f1,f2,f3,f4,f5⟩,flt⟩:=hfp3 b hb
  refine⟨hn b hb,aX flt,fun z=>?_,.inl hb,fun y c e=>f4 y c (hcl.sub y c e),fun p hp=>?_⟩
  ·rcases aW.mp (I3.stkSub b z) with z | z
   ·exact f1 z
   ·exact f2 z
  ·have hp:p∈(X.pn++pins)++[]:=hp
   rw[cJ] at hp
   exact f5 p hp
 have loop:∀s₄:Shared,s₄={s3 with heap:=h₁,toks:=s3.toks+([]:List (Str×Value)).length}->
   codeAny (model X.prog X.w) X.A (.compLoop (.ListComp elt [⟨tg,iter,ifs,0⟩] scope pos) 0 (.ref it) (.ref D) (compEnvC scope cl s3.heap.objs.size X.env)) (RR (.ref D) s3.heap.objs.size) s₄:=by
  rintro s₄ rfl
  refine ak9 rfl (fun n s'=>∃i τ H',τ.length=xs.length/\Inv (aaO X (xs++N') scope cl s3.heap.objs.size fp pins s3 H3) [] (τ++aa4 js σ) H' s'/\tn i s'.heap/\(∀b∈fp,H' b=none)/\W i n H') ?_ m0 ⟨0,List.replicate xs.length none,H3,cZ,J4,st4,fun b hb=>(hfp3 b hb).1.1,w0⟩
  rintro n s5 ⟨i,τ,H5,hτ,J5,st5,fr5,w5⟩
  rcases turn i n H5 w5 with ⟨stop,qn⟩ | ⟨go,step⟩
  ·refine dM (T.done (aaO X (xs++N') scope cl s3.heap.objs.size fp pins s3 H3) rfl rfl rfl hc i [] s5 _ H5 (fun _ _=>False) J5 (fpX fr5) st5 stop) (fun r s6 ⟨hr,J6⟩=>?_) fun _ _ z=>z.elim
   subst hr
   exact cell' J6 qn
  ·refine dM (T.item (aaO X (xs++N') scope cl s3.heap.objs.size fp pins s3 H3) rfl rfl rfl hc i [] s5 _ H5 (fun _ _=>False) J5 (fpX fr5) st5 go) (fun r s6 ⟨u,hr,h6⟩=>?_) fun _ _ z=>z.elim
   subst hr
   refine dM h6 (fun _ s6' h6'=>?_) fun _ _ z=>z.elim
   obtain⟨v,H6,J6,r6,y6,st6,fr6⟩:=h6'
   clear h6
   have J6':=J6.pinned (fpX fr6) (T.obj _ _ st6)
   show wpAny _ _ (assign tg _ u) _ _ _
   refine dM (hg _ _ _ _ _ _ s6' _ H6 v u _ J6' r6 (step v H6 y6 τ hτ)) (fun _ s7 h7=>?_) fun _ _ z=>z.elim
   obtain⟨_,H7,J7,⟨τ',hτ',rfl⟩,q7⟩:=h7
   have again:∀{σ8:St} {H8:Hp} {s8:Shared},Inv (aaO X (xs++N') scope cl s3.heap.objs.size fp pins s3 H3) ([]++agE fp s6'.heap) σ8 H8 s8->tn (i+1) s8.heap/\∀b∈fp,H8 b=none:=fun {σ8 H8 s8} J8=>by
    refine⟨T.keep _ _ _ st6 fun b hb o e=>(J8.pin (b,o) (bP _ (bP _ (ab4 hb e)))).1,fun b hb=>?_⟩
    obtain⟨o,e,d⟩:=T.obj _ _ st6 b hb
    exact (J8.pin (b,o) (bP _ (bP _ (ab4 hb e)))).2.1
   refine dM (ht _ _ _ _ _ _ s7 _ H7 _ J7 q7) (fun ok s8 ⟨H8,J8,q8⟩=>?_) fun _ _ z=>z.elim
   cases ok with
   |false=>
    obtain⟨m',hm,w8⟩:=(show ∃m',m'<n/\W (i+1) m' H8 from q8)
    obtain⟨a1,a2⟩:=again J8
    exact⟨m',hm,i+1,τ',H8,hτ',J8.unpinned,a1,a2,w8⟩
   |true=>
    refine dM (he _ _ _ _ _ _ s8 _ H8 _ J8 q8) (fun y s9 ⟨z,H9,J9,r9,ys,hys,hlen,m',hm,w9⟩=>?_) fun _ _ z=>z.elim
    refine dM (ahT (X:=aaO X (xs++N') scope cl s3.heap.objs.size fp pins s3 H3) _ s9 _ H9 (.ref D) [z] (.ref D) [y] (fun _ H10=>H10=upd H9 D (.lst (ys++[z]))) J9 rfl (.cons r9 .nil) ⟨D,ys,z,rfl,rfl,hys,hlen,rfl⟩) (fun _ s10 ⟨_,H10,J10,_,e10⟩=>?_) fun _ _ z=>z.elim
    subst e10
    obtain⟨a1,a2⟩:=again J10
    exact⟨m',hm,i+1,τ',_,hτ',J10.unpinned,a1,a2,w9⟩
 exact codeAny_compStart_list (loop _ rfl) (T.self _ 0 _ _ _ st4 (loop _ rfl))
theorem ayT(hcl:Clos X scope cl)(hnd:(xs++N').Nodup)(hN:js.map (fun j=>X.N[j]?)=N'.map some)
  (hk:N'.all (fun y=>(X.env.kindOf y==some .cell)||(X.env.kindOf y==some .free))=true) (hf:N'.all (fun y=>scope.names.lookup y==some .free)=true) (hc:X.calm=true)
  (hi:PI X (tg) iter wi)
  (hg:∀(C:Addr) (ex:List Addr) (pins:List (Addr×Obj)) (s:Shared) (H:Hp),PG (aaO X (xs++N') scope cl C ex pins s H) tg g)
  (ht:∀(C:Addr) (ex:List Addr) (pins:List (Addr×Obj)) (s:Shared) (H:Hp),PF (aaO X (xs++N') scope cl C ex pins s H) ifs tt)
  (he:∀(C:Addr) (ex:List Addr) (pins:List (Addr×Obj)) (s:Shared) (H:Hp),PE (aaO X (xs++N') scope cl C ex pins s H) elt te)
  (hs:∀x,foldedSetIterable iter X.env x=pure x:=by intro _;rfl):
  PE X (.ListComp elt [⟨tg,iter,ifs,0⟩] scope pos) (azW wi xs.length js g tt te):=by
 intro pins s σ H Q I h
 rw[eval_ListComp]
 refine wpAny_comprehension_free (use:=none) rfl hs hcl.is hcl.kind hcl.names (thn (hi pins s σ H _ I h) fun xv s₁ h₁=>thn h₁ fun itv s₂ h₂=>?_)
 obtain⟨it,fp,tn,J,H2,rfl,I2,T,st,hfp,q⟩:=h₂
 refine arN (RR:=fun acc C=>compPost (model X.prog X.w) X.A X.xe none (EP X pins σ Q) acc C) hcl hnd hN hk hf hc hg ht he I2 T st hfp q ?_
 intro D C s' H' m I' hC0 hCL hCs hCc hCp hn hq
 refine⟨m,hn,fun h' sb=>⟨.ref D,H',?_,rfl,hq⟩⟩
 exact I'.turned (t':=s'.toks) (fun b o hb e=>(sb.2 b hb).trans e) hC0 hCL (.inr hCs) hCc hCp
theorem ax6(xs N':List Str)(js:List Nat)(hi:Il X (tg) iter wi)
  (hg:∀(cl:List (Str×Addr)) (C:Addr) (ex:List Addr) (pins:List (Addr×Obj)) (s:Shared) (H:Hp),Gt (aaO X (xs++N') scope cl C ex pins s H) tg g)
  (ht:∀(cl:List (Str×Addr)) (C:Addr) (ex:List Addr) (pins:List (Addr×Obj)) (s:Shared) (H:Hp),Fs (aaO X (xs++N') scope cl C ex pins s H) ifs tt)
  (he:∀(cl:List (Str×Addr)) (C:Addr) (ex:List Addr) (pins:List (Addr×Obj)) (s:Shared) (H:Hp),E (aaO X (xs++N') scope cl C ex pins s H) elt te)
  (hcl:∃cl,Clos X scope cl:=by exact apZ rfl rfl rfl rfl) (hnd:(xs++N').Nodup:=by decide +kernel) (hN:js.map (fun j=>X.N[j]?)=N'.map some:=by rfl)
  (hk:N'.all (fun y=>(X.env.kindOf y==some .cell)||(X.env.kindOf y==some .free))=true:=by rfl) (hf:N'.all (fun y=>scope.names.lookup y==some .free)=true:=by rfl) (hc:X.calm=true:=by rfl)
  (hs:∀x,foldedSetIterable iter X.env x=pure x:=by intro _;rfl):E X (.ListComp elt [⟨tg,iter,ifs,0⟩] scope pos) (azW wi xs.length js g tt te):=by
 obtain⟨cl,hcl⟩:=hcl
 exact⟨ayT hcl hnd hN hk hf hc hi.h (fun C ex pins s H=>(hg cl C ex pins s H).h) (fun C ex pins s H=>(ht cl C ex pins s H).h) (fun C ex pins s H=>(he cl C ex pins s H).h) hs⟩
end
section
variable{js:List Nat}{σ:St}{tt:TT}{te:TE}{Q:VK}{H1:Hp}
end
theorem aO6{X:Cx}{pos:Pos}{K:FG}{es:List Expr}{k n:Nat}{t:TGs}(h:Gts X es t)(hK:X.K=K:=by rfl)(hc:X.calm=true:=by rfl)(hn:(assignEach es X.env).length=n:=by rfl)(hst:(assignEach es X.env).findIdx? (·.1)=none:=by rfl):Gt X (.Tuple es k pos) (aw5 K n t):=by
 subst hK
 exact gTu h hc hn hst
section
variable{X:Cx}
end
section
variable{X:Cx}{elt iter tg:Expr}{xs:List Str}{y:Str}{py pos spos:Pos}{ifs:List Expr}{scope:Scope}{cl:List (Str×Addr)}{N':List Str}{js:List Nat}{tt:TT}{te:TE}{g:TG}{wi:TI}
end
end L2
namespace L2
open PySem PySem.Spec PyProof.Rows PySem.SeqAt
section
variable{X:Cx}
end
section
variable{M:Model}{A:Around}{E:Value->Shared->Prop}{s:Shared}{f:Obj->Prop}{B:Heap}{env:Env}{outer l:List Env}{L e:Addr}{fl:Value}{Q:Unit->Shared->Prop}
end
theorem ObjOk.at{P:Program}{w:World}{H:Hp}{h:Heap}{a:Addr}{o:HO}(x:ObjOk P w H h a o):∃ob,h.get? a=some ob:=by
 induction o with
 |lst xs=>obtain⟨_,_,_,_,e⟩:=x;exact⟨_,e⟩
 |tup xs=>obtain⟨_,_,_,ob,e,_⟩:=x;exact⟨_,e⟩
 |dK kvs=>obtain⟨_,_,_,_,ob,_,_,e,_⟩:=x;exact⟨_,e⟩
 |dT kvs=>obtain⟨_,_,_,_,ob,_,_,e,_⟩:=x;exact⟨_,e⟩
 |set S n=>obtain⟨ob,_,_,_,e,_⟩:=x;exact⟨_,e⟩
 |ins C dx fs=>obtain⟨_,_,_,e,_⟩:=x;exact⟨_,e⟩
 |own y=>exact x
 |xd fs=>obtain⟨_,⟨ob,_,_,e,_⟩,_⟩:=x;exact⟨_,e⟩
 |rng lo hi=>obtain⟨_,_,_,e⟩:=x;exact⟨_,e⟩
 |frz ob u ih=>exact⟨_,x.1⟩
 |tbl ps=>exact⟨_,x⟩
 |met f y=>exact⟨_,x⟩
 |ext φ=>exact x.2.1
noncomputable def Ex(C:Addr)(d:Option Addr)(b:Bool)(o:Obj):Prop:=o.cls=.ref C/\o.dict=d/\∃vs,o.data=.fields vs/\(b=true->vs[2]? =some .none)
noncomputable def wc(C:Addr):Value:=.int C 0
noncomputable def cv(C:Addr):Bool->Value
 |true=>.ref C
 |false=>wc C
noncomputable def Fly(g h:Heap)(H:Hp)(a C:Addr)(d:Option Addr)(b:Bool):Prop:=
 H a=none/\g.get? a=none/\∃(o:Obj) (vs:Array Value) (T:Addr) (oT:Obj) (ts:Array Value),(h.get? a=some o/\o.data=.fields vs/\vs[1]? =some (.ref T)/\Ex C d b o)/\
  (h.get? T=some oT/\oT.data=.fields ts/\ts[3]? =some .none)/\(H T=none/\g.get? T=none)/\T≠a
noncomputable def CX1(P:Program)(w:World):CXT:=fun outer H s E e s'=>
 ∃a C d b H',e=.ref a/\s'.os=s.os/\AllBare s'.gens/\Un (frs outer) [] H H' s.heap s'.heap/\HOk P w H' s'.heap/\Fly s.heap s'.heap H' a C d b/\E (cv C b) d H'
section
variable{P:Program}{w:World}{K:FG}{mg:Str->Option Value}{base:Heap}{N:List Str}{qual:Str}{scope:Scope}{f:Addr}{cd:Value}{A:Around}{outer:List Env}{s0:Shared}{H0:Hp}{E:XK}
end
noncomputable abbrev aG8:List Value:=[.type "ValueError",.type "Exception",.type "BaseException",.type "object"]
structure Xc(K:FG)(mg:Str->Option Value)(x:Str)(C:Addr):Prop where
 m:mg x=some (.ref C)
 n:PySem.W.nsIn K mainGlobals x=some (some (.ref C))
 q:PySem.W.excIn K C aG8 "ValueError.__new__"=true
theorem Mod.top{K:FG}{mg:Str->Option Value}{base:Heap}(m:Mod K mg base)(p:Program):∃loose mb,PySem.W.TopRead p loose mg mb base:=by
 obtain⟨mb,b1,b2⟩:=m.blt
 obtain⟨o,es,ep,ho,hd,hk,hf⟩:=id m.glob
 refine⟨es.toList.filterMap fun e=>match e.key with | .str y _=>some y | _=>none,mb,m.glob,b1,m.nolimit,b2,fun x _ hx _ _ _=>?_⟩
 rw[←hf]
 have none_:es.find? (fun e=>e.key.isStr x)=none:=by
  rw[Array.find?_eq_none]
  intro e he hs
  obtain⟨y,t,ek⟩:=hk e he
  refine hx (List.mem_filterMap.mpr ⟨e,by simpa using he,?_⟩)
  rw[ek] at hs ⊢
  have:y=x:=by simpa [Value.isStr] using hs
  rw[this]
 show (es.find? fun e=>e.key.isStr x).map (·.val)=none
 rw[none_]
 rfl
theorem Xc.own{K:FG}{mg:Str->Option Value}{base:Heap}{x:Str}{C:Addr}(c:Xc K mg x C)(m:Mod K mg base)(p:Program):OwnCls x C aG8 "ValueError.__new__" mg base:=by
 obtain⟨loose,mb,T⟩:=m.top p
 exact PySem.W.own_of_in m.kin T c.n c.q
section
variable{X:Cx}{E:XK}{x:Str}{C:Addr}{e:Expr}{es:List Expr}{t:TA}{np cpos pos:Pos}
end
section
variable{P:Program}{w:World}{K:FG}{mg:Str->Option Value}{base:Heap}{N:List Str}{qual:Str}{scope:Scope}{f:Addr}{cd:Value}{A:Around}{outer:List Env}{s0:Shared}{H0:Hp}{E:XK}
end
section
variable{P:Program}{w:World}{K:FG}{mg:Str->Option Value}{base:Heap}{x:Str}{st:Stmt}{ps N:List Str}{k:Nat}{sp:Sp}
end
noncomputable def XP(X:Cx)(pins:List (Addr×Obj))(σ:St)(E:XK)(e:Value)(s':Shared):Prop:=∃s1 H1,Inv X pins σ H1 s1/\CX1 X.prog X.w X.stack H1 s1 E e s'
noncomputable abbrev TX:=St->Hp->VK->XK->Prop
noncomputable abbrev TB:=Ends->St->Hp->XK->Prop
section
variable{X:Cx}{k k':Nat}{ps:List Str}{sp:Sp}{x:Str}{e:Expr}{es:List Expr}{tA:TA}{p pos:Pos}{t:TX}
end
section
variable{X:Cx}{pins:List (Addr×Obj)}{σ:St}{H:Hp}{s:Shared}
end
noncomputable def xo(a C:Addr)(d:Option Addr)(b:Bool):HO:=.ext fun h=>∃o,h.get? a=some o/\Ex C d b o
section
variable{X:Cx}{body suite:List Stmt}{b0:Stmt}{tb:TB}{th:Addr->TS}{cx n:Str}{np hpos pos:Pos}{CF:Addr}
end
section
variable{X:Cx}{E:XK}{x:Str}{C:Addr}{e:Expr}{es:List Expr}{tA:TA}{np cpos pos p:Pos}{k k':Nat}{ps:List Str}{sp:Sp}
end
section
open PySem.W
variable{prog:Program}{w:World}{A:Around}{E:Value->Shared->Prop}{s:Shared}{K:FG}{a C:Addr}
open Builtin Builtin.ObjectAttr Builtin.Getset_descriptor in
open Builtin Builtin.ObjectAttr in
end
section
variable{X:Cx}{body suite:List Stmt}{b0:Stmt}{tb:TB}{th:Addr->TS}{cx:Str}{np hpos pos:Pos}{CF:Addr}
end
section
variable{prog:Program}{w:World}{A:Around}{E:Value->Shared->Prop}{s:Shared}{e C a:Addr}{d:Option Addr}
end
section
variable{prog:Program}{w:World}{A:Around}{E:Value->Shared->Prop}{s:Shared}{env:Env}{e C a:Addr}{d:Option Addr}
end
section
variable{P:Program}{w:World}{K:FG}{mg:Str->Option Value}{base:Heap}{N:List Str}{qual:Str}{scope:Scope}{f:Addr}{cd:Value}{A:Around}{outer:List Env}{s0:Shared}{H0:Hp}{E:XK}
end
section
variable{X:Cx}{E:XK}{x:Str}{C a:Addr}{e:Expr}{es:List Expr}{t:TA}{np cpos pos p2:Pos}{j:Nat}
end
noncomputable def tDi:TE:=fun _ H Q=>∀p,H p=none->Q (.ref p) (upd H p (.dK []))
section
variable{X:Cx}{pos:Pos}{o i:Expr}{to ti:TE}
theorem Inv.bigM{pins:List (Addr×Obj)}{σ:St}{H:Hp}{s:Shared}(I:Inv X pins σ H s):sysModules<s.heap.objs.size:=by
 have h:mainGlobals<s.heap.objs.size:=(I.mod.glob.keeps I.bk).lt
 exact Nat.lt_trans (by decide) h
theorem eDi:E X (.Dict [] [] pos) tDi:=⟨fun pins s σ H Q I h=>wpAny_Dict_empty ⟨.ref s.heap.objs.size,_,I.laid (a:=s.heap.objs.size) (o:=.dK []) (t':=s.toks) (fun _ _ q=>aZ _ q) (aQ _)
 ⟨bO _,beq_eq_false_iff_ne.mpr (Ne.symm (aX I.bigM)),[],.nil,Heap.DictOf.new s.heap⟩,rfl,h _ (I.hok.fresh (aQ _))⟩⟩
theorem gSb(ho:E X o to)(hi:E X i ti)(ha:∀v,assign (.Subscript o i pos) X.env v=(do
   let ov ←holding [v] (eval o X.env)
   let iv ←holding [v,ov] (eval i X.env)
   standAt pos
   holding [v,ov,iv] (setItem ov iv v)
   release [v,ov,iv] []):=by intro _;rfl):Gt X (.Subscript o i pos) (aHL to ti aDB):=⟨aFO ho.h hi.h azG ha⟩
end
noncomputable def Kd.wh:Kd->Bool
 |.int=>true
 |_=>false
theorem KindV.same{K:FG}{H H':Hp}{v:V}{k:Kd}(h:KindV K H v k)(s:Same H H'):KindV K H' v k:=by
 cases v with
 |ref a=>
  rcases h with ⟨e,xs,h⟩ | ⟨e,xs,h⟩ | ⟨e,xs,h⟩
  ·exact .inl ⟨e,xs,s.seq h⟩
  ·refine .inr (.inl ⟨e,xs,?_⟩)
   rcases h with (h | ⟨o,h⟩) | h
   ·exact .inl (.inl (s _ _ h))
   ·exact .inl (.inr ⟨o,s _ _ h⟩)
   ·exact .inr h
  ·exact .inr (.inr ⟨e,xs,s _ _ h⟩)
 |int i=>exact h
 |bl b=>exact h
 |str x=>exact h
 |non=>exact h
 |byt b=>exact h
 |flt b=>exact h
 |ty n=>exact h
section
variable{X:Cx}
theorem aC8:Op2 X (compareOp .IsNot) (fun x y H Q=>∃b c:Bool,x=.bl b/\y=.bl c/\Q (.bl (!decide (b=c))) H):=by
 refine⟨fun pins s σ H x y v u Q I rx ry h=>?_⟩
 obtain⟨b,c,rfl,rfl,q⟩:=h
 cases rx
 cases ry
 have e:compareOp .IsNot (.bool b) (.bool c)=pure (.bool (!decide (b=c))):=by cases b<;>cases c<;>rfl
 exact wpAny_of_eq e ⟨.bl _,H,I,rfl,q⟩
theorem aPG:Op2 X (compareOp .Is) (fun x y H Q=>∃b c:Bool,x=.bl b/\y=.bl c/\Q (.bl (decide (b=c))) H):=by
 refine⟨fun pins s σ H x y v u Q I rx ry h=>?_⟩
 obtain⟨b,c,rfl,rfl,q⟩:=h
 cases rx
 cases ry
 have e:compareOp .Is (.bool b) (.bool c)=pure (.bool (decide (b=c))):=by cases b<;>cases c<;>rfl
 exact wpAny_of_eq e ⟨.bl _,H,I,rfl,q⟩
end
section
variable{js:List Nat}{σ:St}{tt:TT}{te:TE}{Q:VK}{H1:Hp}
end
noncomputable def afA(l:List Nat)(lo hi:Option Int):List Nat:=(l.drop (HT.sIx l.length 0 lo)).take (HT.sIx l.length l.length hi-HT.sIx l.length 0 lo)
theorem aDD(v:Option Int)(n d:Nat):(match v with | none=>(d:Int) | some i=>max 0 (min (if i<0 then i+(n:Int) else i) (n:Int)))=((HT.sIx n d v:Nat):Int):=by
 cases v with
 |none=>rfl
 |some i=>
  show max 0 (min (if i<0 then i+(n:Int) else i) (n:Int))=(((if i<0 then (i+(n:Int)).toNat else min i.toNat n):Nat):Int)
  by_cases h:i<0
  ·rw[if_pos h,if_pos h];omega
  ·rw[if_neg h,if_neg h];omega
theorem azK(lo hi:Option Int)(n:Nat):Builtin.Str.strSliceIndices lo hi 1 n=sliceRange ((HT.sIx n 0 lo:Nat):Int) ((HT.sIx n n hi:Nat):Int) 1:=by
 unfold Builtin.Str.strSliceIndices
 simp only[show ((1:Int)>0)=True from by simp,if_true]
 rw[←aDD lo n 0,←aDD hi n n]
 cases lo<;>cases hi<;>rfl
theorem ap0(a b:Nat):sliceRange (a:Int) (b:Int) 1=(List.range (b-a)).map fun k=>a+k:=by
 rcases Nat.lt_or_ge a b with c | c
 ·have up:(a:Int)<b:=by omega
  have many:(((b:Int)-a+1-1) / 1).toNat=b-a:=by rw[Int.ediv_one];omega
  have e:∀k:Nat,((a:Int)+1*(k:Int)).toNat=a+k:=fun k=>by omega
  simp only[sliceRange,gt_iff_lt,Int.one_pos,if_true,up,many,e]
 ·have no:¬((a:Int)<b):=by omega
  have z:b-a=0:=by omega
  simp only[sliceRange,gt_iff_lt,Int.one_pos,if_true,no,if_false,z,List.range_zero,List.map_nil]
  rfl
theorem awN(l:List Nat)(n a:Nat):((List.range n).map fun k=>a+k).filterMap (fun i=>(Tx l).cps[i]?)=(l.drop a).take n:=by
 rw[List.filterMap_map]
 induction n with
 |zero=>rw[List.take_zero];rfl
 |succ n ih=>
  have one:[n].filterMap ((fun i=>(Tx l).cps[i]?) ∘ fun k=>a+k)=(l[a+n]?).toList:=by
   show List.filterMap _ [n]=_
   cases e:l[a+n]? <;>simp[e]
  rw[List.range_succ,dF,ih,one,List.take_add_one,List.getElem?_drop]
theorem aDS(l:List Nat)(lo hi:Option Int):(Builtin.Str.strSliceIndices lo hi 1 l.length).filterMap (fun i=>(Tx l).cps[i]?)=afA l lo hi:=by
 rw[azK,ap0,awN]
 rfl
theorem avX(l:List Nat)(lo hi:Option Int)(h:(Builtin.Str.strSliceIndices lo hi 1 l.length).length=l.length):afA l lo hi=l:=by
 rw[azK,ap0,aR,dE] at h
 have h1:=HT.sIx_le l.length l.length (aQ _) hi
 have e1:HT.sIx l.length 0 lo=0∨l.length=0:=by omega
 unfold afA
 rcases e1 with e | e
 ·rw[e]
  have:HT.sIx l.length l.length hi=l.length:=by omega
  rw[this]
  simp
 ·have:l=[]:=List.eq_nil_of_length_eq_zero e
  subst this
  simp
theorem agT(l:List Nat)(lo hi:Option Int):(afA l lo hi).length<=l.length:=by
 unfold afA
 rw[cL,c6]
 omega
section
variable{X:Cx}
noncomputable def rSlX:V->Option Int->Option Int->Hp->VK->Prop:=fun x lo hi H Q=>∃l:List Nat,x=.str (Tx l)/\l.length<=sizeLine/\Q (.str (Tx (afA l lo hi))) H
theorem slX:Sls X rSlX:=by
 refine⟨fun pins s σ H x v vl vu lo hi sl Q I rx hs pl pu h=>?_⟩
 obtain⟨l,rfl,hz,q⟩:=h
 obtain⟨t,rfl⟩:=rx
 refine⟨"str",_,PySem.F.slot_str_getitem.lookup,typeIs_str _ _ _,?_⟩
 obtain⟨o,ho,hc,hd⟩:=hs
 have fin:∀(a b:Option (Int×Tok)),o.data=.fields #[partValue a,partValue b,.none]->a.map (·.1)=lo->b.map (·.1)=hi->wpAny (model X.prog X.w) X.A (getItem (.str (Tx l) t) (.ref sl)) (EP X pins σ Q) X.xe s:=fun a b hd ea eb=>by
  refine wpAny_getItem_str_slice (l:=a) (u:=b) (st:=none) ⟨o,ho,hc,hd⟩ rfl ?_
  have ep:slicePicked (Tx l) a b none=Builtin.Str.strSliceIndices lo hi 1 l.length:=by unfold slicePicked;rw[ea,eb,abK];rfl
  unfold sliceMade
  rw[ep]
  split
  ·next hw=>
   have hw2:(Builtin.Str.strSliceIndices lo hi 1 l.length).length=l.length:=by
    have:=(Bool.and_eq_true_iff.mp hw).2
    rw[abK] at this
    exact beq_iff_eq.mp this
   show EP X pins σ Q _ s
   rw[avX l lo hi hw2] at q
   exact⟨.str (Tx l),H,I,⟨t,rfl⟩,q⟩
  ·rw[aDS]
   exact⟨by rw[abK];exact bE (agT l lo hi) hz,⟨.str (Tx (afA l lo hi)),H,I.tok _,⟨_,rfl⟩,q⟩⟩
 cases pl with
 |none=>
  cases pu with
  |none=>exact fin none none hd rfl rfl
  |int j tj=>exact fin none (some (j,tj)) hd rfl rfl
 |int i ti=>
  cases pu with
  |none=>exact fin (some (i,ti)) none hd rfl rfl
  |int j tj=>exact fin (some (i,ti)) (some (j,tj)) hd rfl rfl
theorem aEB(m:Nat):num m≠[]:=fun e=>Nat.toDigits_ne_nil (List.map_eq_nil_iff.mp e)
noncomputable def aw1:Int->List Nat
 |.ofNat n=>num n
 |.negSucc n=>45::num (n+1)
theorem aA0(z:Int):PySem.Str.ofString (toString z)=Tx (aw1 z):=by
 rw[←ayQ (PySem.Str.ofString (toString z))]
 congr 1
 cases z with
 |ofNat n=>exact PySem.W.KIN.signs_num n
 |negSucc n=>
  rw[signs_ofString]
  have e:(toString (Int.negSucc n)).toList='-'::(toString ((n+1:Nat):Int)).toList:=by
   show ("-"++toString (n+1)).toList='-'::(toString (n+1)).toList
   rw[String.toList_append]
   rfl
  rw[e,bC]
  have:=PySem.W.KIN.signs_num (n+1)
  rw[signs_ofString] at this
  rw[this]
  rfl
theorem aH7:Cl1 X (.type "str") (fun xs H Q=>∃z:Int,xs=[.int z]/\(-(10^500)<z/\z<10^500)/\Q (.str (Tx (aw1 z))) H):=by
 refine⟨fun pins s σ H xs us Q I r h=>?_⟩
 obtain⟨z,rfl,hz,q⟩:=h
 refine agH pins s σ H _ us Q I r ⟨z,rfl,?_,?_⟩
 ·have hn:z.natAbs<10^500:=by
   have e:((10^500:Nat):Int)=(10:Int)^500:=by norm_cast
   omega
  by_cases h0:z.natAbs=0
  ·rw[h0];decide
  ·have:z.natAbs<2^1900:=aY hn (by decide +kernel)
   have:=(Nat.log2_lt h0).mpr this
   omega
 ·show Q (.str (PySem.Str.ofString (toString z))) H
  rw[aA0]
  exact q
end
section
variable{prog:Program}{w:World}{A:Around}{E:Value->Shared->Prop}{s:Shared}{I:Addr}{fp wr:List Addr}{G:Array GenState->Array GenState->Prop}{n:Nat}{P:Nat->Value->Prop}{St:Nat->Shared->Prop}
end
section
variable{X:Cx}{o e:Expr}{to te:TE}{p rpos apos cpos:Pos}
end
theorem ar1{X:Cx}{e:Expr}{t u:TE}(h:E X e t)(h':E X e u):E X e (fun σ H Q=>t σ H Q∨u σ H Q):=
 ⟨fun pins s σ H Q I z=>z.elim (fun z=>h.h pins s σ H Q I z) fun z=>h'.h pins s σ H Q I z⟩
section
variable{X:Cx}
end
section
variable{κ:Type}[DecidableEq κ]
noncomputable def acW(kvs:List (κ×V))(k:κ):Option V:=(kvs.find? fun kv=>decide (kv.1=k)).map (·.2)
noncomputable def agC(kvs:List (κ×V))(k:κ)(v:V):List (κ×V):=
 if (kvs.any fun kv=>decide (kv.1=k))=true then kvs.map (fun kv=>if kv.1=k then (kv.1,v) else kv) else kvs++[(k,v)]
theorem abO{p:κ×V}{r:List (κ×V)}{k:κ}(e:p.1=k):acW (p::r) k=some p.2:=by simp[acW,dB,e]
theorem abQ{p:κ×V}{r:List (κ×V)}{k:κ}(e:¬p.1=k):acW (p::r) k=acW r k:=by simp[acW,dB,e]
theorem agQ(k:κ):∀kvs:List (κ×V),(kvs.any fun kv=>decide (kv.1=k))=(acW kvs k).isSome
 |[]=>rfl
 |p::r=>by
  rw[cI]
  by_cases e:p.1=k
  ·simp only[abO e,dQ e,Bool.true_or,Option.isSome_some]
  ·rw[abQ e,dU e,Bool.false_or];exact agQ k r
theorem aqP(k j:κ)(y:V):∀kvs:List (κ×V),acW (kvs.map fun kv=>if kv.1=k then (kv.1,y) else kv) j=(acW kvs j).map fun x=>if j=k then y else x
 |[]=>rfl
 |p::r=>by
  have ih:=aqP k j y r
  rw[bC]
  by_cases h:p.1=k
  ·rw[if_pos h]
   by_cases e:p.1=j
   ·rw[abO (p:=(p.1,y)) e,abO e,c8,if_pos (e.symm.trans h)]
   ·rw[abQ (p:=(p.1,y)) e,abQ e,ih]
  ·rw[if_neg h]
   by_cases e:p.1=j
   ·rw[abO (p:=p) e,abO e,c8,if_neg (fun z=>h (e.trans z))]
   ·rw[abQ (p:=p) e,abQ e,ih]
theorem anH(k j:κ)(y:V):∀kvs:List (κ×V),acW kvs k=none->acW (kvs++[(k,y)]) j=if j=k then some y else acW kvs j
 |[],_=>by
  by_cases e:k=j
  ·rw[if_pos e.symm];exact abO (p:=(k,y)) e
  ·rw[if_neg (fun z=>e z.symm)];exact abQ (p:=(k,y)) e
 |p::r,hn=>by
  rw[List.cons_append]
  have hk:¬p.1=k:=fun z=>by rw[abO z] at hn;cases hn
  rw[abQ hk] at hn
  have ih:=anH k j y r hn
  by_cases e:p.1=j
  ·rw[abO e,abO e,if_neg (fun z=>hk (e.trans z))]
  ·rw[abQ e,abQ e,ih]
theorem aq7(kvs:List (κ×V))(k j:κ)(y:V):acW (agC kvs k y) j=if j=k then some y else acW kvs j:=by
 unfold agC
 by_cases a:(kvs.any fun kv=>decide (kv.1=k))=true
 ·rw[if_pos a,aqP]
  rw[agQ] at a
  by_cases e:j=k
  ·obtain⟨x,hx⟩:=cY.mp a
   rw[if_pos e,e,hx,c8,if_pos rfl]
  ·rw[if_neg e]
   cases acW kvs j with
   |none=>rfl
   |some x=>rw[c8,if_neg e]
 ·rw[if_neg a]
  refine anH k j y kvs ?_
  rw[agQ] at a
  cases q:acW kvs k with
  |none=>rfl
  |some x=>rw[q] at a;exact (a rfl).elim
theorem ae0(kvs:List (κ×V))(k:κ)(v:V):(agC kvs k v).length<=kvs.length+1:=by
 unfold agC
 split
 ·rw[aR];omega
 ·rw[aU,bU,List.length_nil];omega
theorem RelO.isSome_eq{o:Option V}{u:Option Value}(r:RelO o u):o.isSome=u.isSome:=by
 cases o with
 |none=>cases u with
  |none=>rfl
  |some _=>exact (show False from r).elim
 |some _=>cases u with
  |none=>exact (show False from r).elim
  |some _=>rfl
theorem KV.val{kvs:List (κ×V)}{vs:List (κ×Value)}(r:KV kvs vs)(k:κ):RelO (acW kvs k) (valueAt vs k):=by
 unfold KV at r
 induction r with
 |nil=>exact True.intro
 |@cons p q ps qs h t ih=>
  obtain⟨h1,h2⟩:=h
  by_cases e:p.1=k
  ·have e':q.1=k:=h1.symm.trans e
   have b:valueAt (q::qs) k=some q.2:=by simp[valueAt,dB,e']
   rw[abO e,b];exact h2
  ·have e':¬q.1=k:=fun z=>e (h1.trans z)
   have b:valueAt (q::qs) k=valueAt qs k:=by simp[valueAt,dB,e']
   rw[abQ e,b];exact ih
theorem KV.any{kvs:List (κ×V)}{vs:List (κ×Value)}(r:KV kvs vs)(k:κ):(kvs.any fun kv=>decide (kv.1=k))=vs.any fun kv=>decide (kv.1=k):=by
 unfold KV at r
 induction r with
 |nil=>rfl
 |cons h t ih=>rw[cI,cI,ih,h.1]
theorem KV.repl{kvs:List (κ×V)}{vs:List (κ×Value)}(r:KV kvs vs)(k:κ){y:V}{u:Value}(ry:RelV y u):
  KV (kvs.map fun kv=>if kv.1=k then (kv.1,y) else kv) (vs.map fun kv=>if kv.1=k then (kv.1,u) else kv):=by
 unfold KV at r ⊢
 induction r with
 |nil=>exact .nil
 |@cons p q ps qs h t ih=>
  rw[bC,bC]
  refine .cons ?_ ih
  obtain⟨h1,h2⟩:=h
  by_cases e:p.1=k
  ·rw[if_pos e,if_pos (h1.symm.trans e)];exact⟨h1,ry⟩
  ·rw[if_neg e,if_neg (fun z=>e (h1.trans z))];exact⟨h1,h2⟩
theorem KV.put{kvs:List (κ×V)}{vs:List (κ×Value)}(r:KV kvs vs)(k:κ){y:V}{u:Value}(ry:RelV y u):KV (agC kvs k y) (stored vs k u):=by
 unfold agC stored
 rw[r.any k]
 by_cases e:(vs.any fun kv=>decide (kv.1=k))=true
 ·rw[if_pos e,if_pos e];exact r.repl k ry
 ·rw[if_neg e,if_neg e];exact Paired.snoc r ⟨rfl,ry⟩
theorem KV.length{kvs:List (κ×V)}{vs:List (κ×Value)}(r:KV kvs vs):kvs.length=vs.length:=Paired.length r
end
theorem ap1{P:Program}{w:World}{k:Key}{u:Value}(r:RelV (kV k) u):(abC P w).is k u=true:=by
 cases k with
 |inl i=>obtain⟨t,e⟩:=(show ∃t,u=Value.int i t from r);subst e;exact arF P w i t
 |inr x=>obtain⟨t,e⟩:=(show ∃t,u=Value.str x t from r);subst e;exact ar7 P w x t
theorem acK{P:Program}{w:World}:∀{ks:List Key} {us:List Value},Vals (ks.map kV) us->ItemsAre (abC P w) ks us
 |[],_,r=>by rw[List.map_nil] at r;cases r;exact .nil
 |k::ks,_,r=>by
  rw[bC] at r
  cases r with
  |cons h t=>exact .cons (ap1 h) (acK t)
noncomputable abbrev KT(H:Hp):List (List Key×V)->List (List Key×Addr×Value)->Prop:=Paired fun p q=>p.1=q.1/\H q.2.1=some (.tup (p.1.map kV))/\RelV p.2 q.2.2
theorem KT.val{H:Hp}{kvs:List (List Key×V)}{xs:List (List Key×Addr×Value)}(r:KT H kvs xs)(k:List Key):RelO (acW kvs k) ((atKey xs k).map (·.2)):=by
 induction r with
 |nil=>exact True.intro
 |@cons p q ps qs h t ih=>
  obtain⟨h1,_,h2⟩:=h
  by_cases e:p.1=k
  ·have e':q.1=k:=h1.symm.trans e
   have b:atKey (q::qs) k=some q.2:=by simp[atKey,dB,e']
   rw[abO e,b];exact h2
  ·have e':¬q.1=k:=fun z=>e (h1.trans z)
   have b:atKey (q::qs) k=atKey qs k:=by simp[atKey,dB,e']
   rw[abQ e,b];exact ih
theorem KT.repl{H:Hp}{kvs:List (List Key×V)}{xs:List (List Key×Addr×Value)}(r:KT H kvs xs)(k:List Key){y:V}{u:Value}(ry:RelV y u):
  KT H (kvs.map fun kv=>if kv.1=k then (kv.1,y) else kv) (xs.map (putAt k u)):=by
 induction r with
 |nil=>exact .nil
 |@cons p q ps qs h t ih=>
  rw[bC,bC]
  refine .cons ?_ ih
  obtain⟨h1,h2,h3⟩:=h
  unfold putAt
  by_cases e:p.1=k
  ·rw[if_pos e,if_pos (h1.symm.trans e)];exact⟨h1,h2,ry⟩
  ·rw[if_neg e,if_neg (fun z=>e (h1.trans z))];exact⟨h1,h2,h3⟩
theorem KT.put{H:Hp}{kvs:List (List Key×V)}{xs:List (List Key×Addr×Value)}(r:KT H kvs xs)(k:List Key){b:Addr}{y:V}{u:Value}(hb:H b=some (.tup (k.map kV)))(ry:RelV y u):
  KT H (agC kvs k y) (storedH xs k b u):=by
 have e:(kvs.any fun kv=>decide (kv.1=k))=(atKey xs k).isSome:=by
  rw[agQ,(r.val k).isSome_eq,Option.isSome_map]
 unfold agC storedH
 rw[e]
 by_cases q:(atKey xs k).isSome=true
 ·rw[if_pos q,if_pos q];exact r.repl k ry
 ·rw[if_neg q,if_neg q];exact Paired.snoc r ⟨rfl,hb,ry⟩
theorem KT.keeps{H H':Hp}{kvs:List (List Key×V)}{xs:List (List Key×Addr×Value)}(r:KT H kvs xs)(ht:∀b ys,H b=some (.tup ys)->H' b=some (.tup ys)):KT H' kvs xs:=
 Paired.mapP r fun _ _ z=>⟨z.1,ht _ _ z.2.1,z.2.2⟩
section
variable{P:Program}{w:World}{H:Hp}{h:Heap}{a:Addr}
theorem aCT{u:HO}(ok:HOk P w H h)(e:Rd H a u):ObjOk P w H h a u:=e.ok ok
theorem avH{kvs:List (Key×V)}(ok:HOk P w H h)(e:Rd H a (.dK kvs)):kvs.length<=sizeLine/\(a==sysModules)=false/\∃vs,KV kvs vs/\h.DictOf (abC P w) a vs:=
 show ObjOk P w H h a (.dK kvs) from aCT ok e
theorem aG0{kvs:List (Key×V)}(ok:HOk P w H h)(e:H a=some (.dK kvs)):kvs.length<=sizeLine/\(a==sysModules)=false/\∃vs,KV kvs vs/\h.DictOf (abC P w) a vs:=avH ok (.inl e)
theorem an6{ks:List Key}(ok:HOk P w H h)(e:H a=some (.tup (ks.map kV))):(tupleKind (abC P w)).is h ks a:=by
 obtain⟨_,its,r,o,h1,h2,n,h3⟩:=(show ObjOk P w H h a (.tup (ks.map kV)) from ok a _ e)
 exact⟨o,its.toArray,n,h1,h2,h3,by simpa using acK r⟩
theorem auW{kvs:List (List Key×V)}(ok:HOk P w H h)(e:Rd H a (.dT kvs)):kvs.length<=sizeLine/\(a==sysModules)=false/\
  ∃xs,KT H kvs xs/\h.DictOfH (tupleKind (abC P w)) a xs:=by
 obtain⟨z,y,xs,r,o,es,ep,h1,h2,h3,h4,h5⟩:=(show ObjOk P w H h a (.dT kvs) from aCT ok e)
 refine⟨z,y,xs,r,o,es,ep,h1,h2,h3,h4,fun x hx=>?_,h5⟩
 have all:∀{l:List (List Key×V)} {m:List (List Key×Addr×Value)},KT H l m->∀x∈m,(tupleKind (abC P w)).is h x.1 x.2.1:=by
  intro l m q
  induction q with
  |nil=>intro x hx;exact nomatch hx
  |@cons p q ps qs hq t ih=>
   intro x hx
   rcases aW.mp hx with e | hx
   ·subst e
    exact an6 ok (by rw[←hq.1];exact hq.2.1)
   ·exact ih x hx
 exact all r x hx
theorem aND{kvs:List (List Key×V)}(ok:HOk P w H h)(e:H a=some (.dT kvs)):kvs.length<=sizeLine/\(a==sysModules)=false/\
  ∃xs,KT H kvs xs/\h.DictOfH (tupleKind (abC P w)) a xs:=auW ok (.inl e)
end
noncomputable def DGet(H:Hp)(a:Addr)(y:V)(r:Option V):Prop:=
 (∃kvs k,Rd H a (.dK kvs)/\y=kV k/\r=acW kvs k)∨∃kvs k b,Rd H a (.dT kvs)/\y=.ref b/\H b=some (.tup (k.map kV))/\r=acW kvs k
noncomputable def DPut(H:Hp)(a:Addr)(y v:V)(H':Hp):Prop:=
 (∃kvs k,H a=some (.dK kvs)/\y=kV k/\kvs.length<sizeLine/\H'=upd H a (.dK (agC kvs k v)))∨
 ∃kvs k b,H a=some (.dT kvs)/\y=.ref b/\H b=some (.tup (k.map kV))/\kvs.length<sizeLine/\H'=upd H a (.dT (agC kvs k v))
theorem DGet.k{H:Hp}{a:Addr}{kvs:List (Key×V)}{k:Key}(e:H a=some (.dK kvs)):DGet H a (kV k) (acW kvs k):=.inl ⟨kvs,k,.inl e,rfl,rfl⟩
theorem DGet.t{H:Hp}{a b:Addr}{kvs:List (List Key×V)}{k:List Key}(e:H a=some (.dT kvs))(eb:H b=some (.tup (k.map kV))):DGet H a (.ref b) (acW kvs k):=.inr ⟨kvs,k,b,.inl e,rfl,eb,rfl⟩
theorem DPut.k{H:Hp}{a:Addr}{kvs:List (Key×V)}{k:Key}{v:V}(e:H a=some (.dK kvs))(hl:kvs.length<sizeLine):DPut H a (kV k) v (upd H a (.dK (agC kvs k v))):=.inl ⟨kvs,k,e,rfl,hl,rfl⟩
theorem DPut.t{H:Hp}{a b:Addr}{kvs:List (List Key×V)}{k:List Key}{v:V}(e:H a=some (.dT kvs))(eb:H b=some (.tup (k.map kV)))(hl:kvs.length<sizeLine):
  DPut H a (.ref b) v (upd H a (.dT (agC kvs k v))):=.inr ⟨kvs,k,b,e,rfl,eb,hl,rfl⟩
section
variable{X:Cx}{pins:List (Addr×Obj)}{σ:St}{H:Hp}{s:Shared}{a:Addr}{y v:V}{u r:Value}{o:Option V}{A:Around}{E:Value->Shared->Prop}
theorem avY{Q:Value->Shared->Prop}(hu:A.units+1<cLine)(I:Inv X pins σ H s)(g:DGet H a y (some v))(ry:RelV y u)(h:∀w' s',Inv X pins σ H s'->RelV v w'->Q w' s'):
  wpAny (model X.prog X.w) A (getItem (.ref a) u) Q E s:=by
 rcases g with ⟨kvs,k,e,ey,l⟩ | ⟨kvs,k,b,e,ey,eb,l⟩
 ·subst ey
  obtain⟨z,hd,vs,rel,dd⟩:=avH I.hok e
  obtain⟨w',hw,rw'⟩:=RelO.some_of (v:=v) (o:=valueAt vs k) (by rw[l];exact rel.val k)
  exact wpAny_getItem_of (ap1 ry) dd.mapOf hw (h w' _ (I.tok _) rw')
 ·subst ey
  cases (show u=Value.ref b from ry)
  obtain⟨z,hd,xs,rel,dd⟩:=auW I.hok e
  obtain⟨w',hw,rw'⟩:=RelO.some_of (v:=v) (o:=(atKey xs k).map (·.2)) (by rw[l];exact rel.val k)
  obtain⟨p,hp,hp2⟩:=Option.map_eq_some_iff.mp hw
  refine wpAny_getItem_heap (tupleKind_room_in1 hu) (an6 I.hok eb) dd hp ?_
  rw[hp2]
  exact h w' _ (I.tok _) rw'
theorem aBR{Q:Value->Shared->Prop}(hu:A.units+1<cLine)(I:Inv X pins σ H s)(g:DGet H a y o)(ry:RelV y u)(h:∀s',Inv X pins σ H s'->Q (.bool (!o.isSome)) s'):
  wpAny (model X.prog X.w) A (compareOp .NotIn u (.ref a)) Q E s:=by
 rcases g with ⟨kvs,k,e,ey,l⟩ | ⟨kvs,k,b,e,ey,eb,l⟩
 ·subst ey
  obtain⟨z,hd,vs,rel,dd⟩:=avH I.hok e
  refine wpAny_notIn_of (ap1 ry) hd dd.mapOf ?_
  rw[←(rel.val k).isSome_eq,←l]
  exact h _ (I.tok _)
 ·subst ey
  cases (show u=Value.ref b from ry)
  obtain⟨z,hd,xs,rel,dd⟩:=auW I.hok e
  refine wpAny_notIn_heap (tupleKind_room_in1 hu) (an6 I.hok eb) hd dd ?_
  have q:=(rel.val k).isSome_eq
  rw[Option.isSome_map] at q
  rw[←q,←l]
  exact h _ (I.tok _)
theorem auG{h':Heap}{t':Nat}{ob:HO}(I:Inv X pins σ H s)(mu:Mut (H a))(hs:Heap.SameBut a s.heap h')(he:∃q,h'.get? a=some q)(new:ObjOk X.prog X.w (upd H a ob) h' a ob):
  Inv X pins σ (upd H a ob) {s with heap:=h',toks:=t'}:=
 I.write (x:=a) (e:=a) mu (.inl rfl) (fun b q hb z=>(hs.2 b hb).trans z) he new
theorem aFU{P:Program}{w:World}{H':Hp}{h':Heap}{kvs:List (Key×V)}{vs:List (Key×Value)}(z:kvs.length<=sizeLine)(hd:(a==sysModules)=false)(rel:KV kvs vs)(dd:h'.DictOf (abC P w) a vs):
  ObjOk P w H' h' a (.dK kvs):=⟨z,hd,vs,rel,dd⟩
theorem awU{H':Hp}{Q:Unit->Shared->Prop}(hu:A.units+1<cLine)(I:Inv X pins σ H s)(g:DPut H a y v H')(ry:RelV y u)(rv:RelV v r)(h:∀s',Inv X pins σ H' s'->Q () s'):
  wpAny (model X.prog X.w) A (setItem (.ref a) u r) Q E s:=by
 rcases g with ⟨kvs,k,e,ey,l,eH⟩ | ⟨kvs,k,b,e,ey,eb,l,eH⟩
 ·subst ey eH
  obtain⟨z,hd,vs,rel,dd⟩:=aG0 I.hok e
  have hz:vs.length<=sizeLine:=by rw[←rel.length];exact z
  have hl:(agC kvs k v).length<=sizeLine:=by have:=ae0 kvs k v;omega
  refine wpAny_setItem_pairs (hsz:=hz) (ap1 ry) dd fun h' dd' hs=>h _ ?_
  have he:∃q,h'.get? a=some q:=let ⟨q,_,_,hq,_⟩:=dd';⟨q,hq⟩
  exact auG I (by rw[e];exact True.intro) hs he (aFU hl hd (rel.put k rv) dd')
 ·subst ey eH
  cases (show u=Value.ref b from ry)
  obtain⟨z,hd,xs,rel,dd⟩:=aND I.hok e
  have hz:xs.length<=sizeLine:=by rw[←Paired.length rel];exact z
  have hl:(agC kvs k v).length<=sizeLine:=by have:=ae0 kvs k v;omega
  refine wpAny_setItem_heap (hsz:=hz) (tupleKind_room_in1 hu) (an6 I.hok eb) dd fun h' dd' hs=>h _ ?_
  obtain⟨q,es,ep,hq,h2,h3,h4,_,h5⟩:=dd'
  refine auG I (by rw[e];exact True.intro) hs ⟨q,hq⟩ ⟨hl,hd,_,(rel.put k eb rv).keeps fun c ys ec=>?_,q,es,ep,hq,h2,h3,h4,h5⟩
  rw[aaF (aGT ec e (fun z=>nomatch z))]
  exact ec
end
section
variable{X:Cx}{pins:List (Addr×Obj)}{σ:St}{H:Hp}{s:Shared}{a:Addr}{kvs:List (Key×V)}{k:Key}{u:Value}{A:Around}{E:Value->Shared->Prop}
end
noncomputable def aB1(i:Expr):Prop:=∀ov iv,subscripted i false ov iv=operate [ov,iv] (getItem ov iv)
theorem auH{prog:Program}{w:World}{A:Around}{E:Value->Shared->Prop}{s:Shared}{env:Env}{value slice:Expr}{pos:Pos}{T id:String}{Q:Value->Shared->Prop}
  (hl:typeLookup (.type T) "__getitem__"=pure (some (.builtin id))) (hs:aB1 slice)
  (h:wpAny (model prog w) A (eval value env) (fun o s₁=>wpAny (model prog w) A (eval slice env) (fun i s₂=>s₂.TypeIs o T/\wpAny (model prog w) A (getItem o i) Q E s₂) E s₁) E s):
  wpAny (model prog w) A (eval (.Subscript value slice pos) env) Q E s:=by
 refine Subscript_ (dM h (fun o s₁ h₁=>dM h₁ (fun i s₂ h₂=>?_) fun _ _ x=>x) fun _ _ x=>x)
 obtain⟨hT,h₂⟩:=h₂
 unfold subscriptTail
 refine dJ ?_
 rw[getitemInPython_of_ne hT.not_modules]
 refine dJ (wpAny_specialOf hT hl ?_)
 have fin:wpAny (model prog w) A (subscripted slice false o i) (fun r s₃=>wpAny (model prog w) A (letTemporaryGo value o r >>=fun _=>pure r) Q E s₃) E s₂:=by
  rw[hs o i]
  exact wpAny_operating (dM h₂ (fun r s₃ h₃=>dJ (wpAny_letTemporaryGo (dX h₃))) fun _ _ x=>x)
 first
  |exact dX (dJ fin)
  |exact dJ (dX (dJ fin))
  |exact dJ fin
theorem arP{X:Cx}{pins:List (Addr×Obj)}{σ:St}{H:Hp}{s:Shared}{a:Addr}{y:V}{o:Option V}(I:Inv X pins σ H s)(g:DGet H a y o):s.TypeIs (.ref a) "dict":=by
 rcases g with ⟨kvs,k,e,_,_⟩ | ⟨kvs,k,b,e,_,_,_⟩
 ·obtain⟨_,_,vs,_,dd⟩:=avH I.hok e
  exact dd.typeIs
 ·obtain⟨_,_,xs,_,dd⟩:=auW I.hok e
  exact dd.typeIs
noncomputable def aC5(td ty:TE):TE:=fun σ H Q=>td σ H fun x H1=>ty σ H1 fun y H2=>∃a v,x=.ref a/\DGet H2 a y (some v)/\Q v H2
noncomputable def auT(ty td:TE):TE:=fun σ H Q=>ty σ H fun y H1=>td σ H1 fun x H2=>∃a o,x=.ref a/\DGet H2 a y o/\Q (.bl (!o.isSome)) H2
noncomputable def aC0(td ty tv:TE):TS:=fun D σ H=>tv σ H fun v H1=>td σ H1 fun x H2=>ty σ H2 fun y H3=>∃a H4,x=.ref a/\DPut H3 a y v H4/\D.nx σ H4
section
variable{X:Cx}{o i e value:Expr}{pos pos' tpos:Pos}{td ty tv:TE}
theorem aAJ(hu:X.A.units+1<cLine)(ho:PE X o td)(hi:PE X i ty)(hs:aB1 i):PE X (.Subscript o i pos) (aC5 td ty):=by
 intro pins s σ H Q I h
 refine auH PySem.F.slot_dict_getitem.lookup hs (thn (ho pins s σ H _ I h) fun u s1 ⟨x,H1,I1,rx,q1⟩=>thn (hi pins s1 σ H1 _ I1 q1) fun iv s2 ⟨y,H2,I2,ry,a,v,ex,g,q2⟩=>?_)
 subst ex
 obtain rfl:u=Value.ref a:=rx
 exact⟨arP I2 g,avY hu I2 g ry fun w' s3 I3 rw'=>⟨v,H2,I3,rw',q2⟩⟩
theorem avW(hu:X.A.units+1<cLine)(hi:PE X i ty)(ho:PE X o td):PC X .NotIn i o (auT ty td):=by
 intro pins s σ H Q I h
 refine thn (hi pins s σ H _ I h) fun iv s1 ⟨y,H1,I1,ry,q1⟩=>thn (ho pins s1 σ H1 _ I1 q1) fun u s2 ⟨x,H2,I2,rx,a,ov,ex,g,q2⟩=>?_
 subst ex
 obtain rfl:u=Value.ref a:=rx
 exact aBR hu I2 g ry fun s3 I3=>⟨.bl (!ov.isSome),H2,I3,rfl,q2⟩
theorem aBA(hu:X.A.units+1<cLine)(ho:PE X o td)(hi:PE X i ty)(hv:PE X value tv)(hs:swapsWith value (some (.Subscript o i pos')) pos.line X.env=pure false):
  PS X (.Assign [.Subscript o i pos'] value pos) (aC0 td ty tv):=by
 intro pins s σ H D I h
 refine wpAny_Assign_Subscript (thn (hv pins s σ H _ I h) fun r s1 ⟨v,H1,I1,rv,q1⟩=>thn (ho pins s1 σ H1 _ I1 q1) fun u s2 ⟨x,H2,I2,rx,q2⟩=>thn (hi pins s2 σ H2 _ I2 q2) fun iv s3 ⟨y,H3,I3,ry,a,H4,ex,g,q3⟩=>?_) hs
 subst ex
 obtain rfl:u=Value.ref a:=rx
 exact awU hu I3 g ry rv fun s4 I4=>⟨σ,H4,I4,q3⟩
end
section
variable{X:Cx}{pos:Pos}
end
section
variable{X:Cx}{pins:List (Addr×Obj)}{σ:St}{H:Hp}{s:Shared}{a:Addr}{y d:V}{u r:Value}{o:Option V}{A:Around}{E:Value->Shared->Prop}
end
section
variable{X:Cx}{o e f:Expr}{apos cpos:Pos}{td ty tx:TE}
end
section
variable{X:Cx}{pins:List (Addr×Obj)}{σ:St}{H:Hp}{s:Shared}{a:Addr}{kvs:List (Key×V)}{A:Around}{E:Value->Shared->Prop}
end
section
variable{X:Cx}{pins:List (Addr×Obj)}{σ:St}{H:Hp}{s:Shared}{a:Addr}{y:V}{u:Value}{A:Around}{E:Value->Shared->Prop}
end
section
variable{X:Cx}{k:Nat}{o i kx vx:Expr}{td ty tk tv:TE}{pos:Pos}{keys:List (Option Expr)}{values:List Expr}{trs:List (TE×TE)}
theorem agF{A:Around}(hr:Room k A):A.units+1<cLine:=by have:=hr.un;omega
theorem eDg(hr:Room k X.A)(ho:E X o td)(hi:E X i ty)(hs:aB1 i:=by intro _ _;rfl):E X (.Subscript o i pos) (aC5 td ty):=⟨aAJ (agF hr) ho.h hi.h hs⟩
theorem axQ:Op2 X (binaryOp .Mult) aQW:=⟨aEI⟩
end
section
variable{prog:Program}{w:World}{A:Around}{E:Value->Shared->Prop}{s:Shared}{a:Addr}{es:Array (Int×Value)}{ep:Nat}{t:SetTable}{z:Int}{tk:Tok}
end
section
variable{prog:Program}{w:World}{A:Around}{R:Result->Shared->Prop}{I:Addr}{fp wr:List Addr}{G:Array GenState->Array GenState->Prop}{n:Nat}{P:Nat->Value->Prop}{St:Nat->Shared->Prop}
end
section
variable{prog:Program}{w:World}{A:Around}{E:Value->Shared->Prop}{s:Shared}
end
section
variable{M:Model}{A:Around}{E:Value->Shared->Prop}{s:Shared}
end
section
variable{prog:Program}{w:World}{A:Around}{E:Value->Shared->Prop}{s:Shared}{a I:Addr}{es:Array (Int×Value)}{ep:Nat}{t:SetTable}
end
section
variable{prog:Program}{w:World}{A:Around}{E:Value->Shared->Prop}{s:Shared}{a I:Addr}{es:Array (Int×Value)}{ep:Nat}{t:SetTable}
end
section
variable{X:Cx}
end
section
variable{X:Cx}
end
section
variable{js:List Nat}{σ:St}{tt:TT}{te:TE}{Q:VK}{H1:Hp}
end
theorem ifX{a b:List Nat}{A B:Prop}(h1:a=b->A)(h2:¬a=b->B):if decide (V.str (Tx a)=V.str (Tx b))=true then A else B:=by
 rw[azM]
 exact ifD h1 h2
theorem ifXt{a:List Nat}{A B:Prop}(h:A):if decide (V.str (Tx a)=V.str (Tx a))=true then A else B:=ifX (fun _=>h) fun c=>absurd rfl c
end L2
namespace KM
open PySem PySem.Spec PyProof.Rows L2
inductive Mk where
 |num (m:Int) | lst (b:Int) | nea (d:Int) | wrk | wkd (m:Int) | nth (w m:Int) | one (w:Int) | nil
 deriving DecidableEq
noncomputable def Lf(l f:Int):Prop:=(28<=l/\l<=31)/\0<=f/\f<=6
noncomputable def amO(ds:List Int):Int:=(ds.map fun d=>1*2^d.toNat).sum
noncomputable def asc:List Int->Bool
 |[]=>true
 |[_]=>true
 |x::y::r=>decide (x<y)&&asc (y::r)
noncomputable def okA(ds:List Int):Bool:=decide (ds.length<=31)&&(asc ds&&ds.all fun d=>decide (0<=d)&&decide (d<=31))
theorem au4(ds:List Int):0<=amO ds:=by
 unfold amO
 induction ds with
 |nil=>exact aV 0
 |cons d ds ih=>
  have:=aaS d.toNat
  rw[bC,List.sum_cons]
  omega
theorem au1{n:Nat}:∀{ds:List Int} (a:Nat),ds.Pairwise (·<·)->(∀d∈ds,(a:Int)<=d/\d<(n:Int))->a<=n->amO ds+2^a<=2^n
 |[],a,_,_,h=>by
  have:=Nat.pow_le_pow_right (show 0<2 by decide) h
  have e:((2:Int)^a)<=2^n:=by exact_mod_cast this
  show (0:Int)+2^a<=2^n
  omega
 |d::ds,a,hp,hb,h=>by
  have p:=List.pairwise_cons.mp hp
  have hd:=hb d (bX ..)
  have ih:=au1 (n:=n) (d.toNat+1) p.2 (fun z hz=>by
   have:=p.1 z hz
   have:=hb z (bY _ hz)
   omega) (by omega)
  have hm:=Nat.pow_le_pow_right (show 0<2 by decide) (show a<=d.toNat by omega)
  have e:((2:Int)^a)<=2^d.toNat:=by exact_mod_cast hm
  have e2:(2:Int)^(d.toNat+1)=2^d.toNat*2:=Int.pow_succ ..
  unfold amO at ih ⊢
  rw[bC,List.sum_cons]
  omega
noncomputable def avM(m l:Int):Int:=Builtin.bitAnd m (2*2^l.toNat-2)
noncomputable def arS(b l:Int):Int:=if l<=b then 0 else 1*2^(l-b).toNat
noncomputable def aoC(m:Int)(n:Nat):Bool:=decide (Builtin.bitAnd (m / 2^(1+(n:Int)).toNat) 1=1)
noncomputable def ahW(m:Int):Nat->List Int
 |0=>[]
 |n+1=>ahW m n++(if aoC m n=true then [1+(n:Int)] else [])
noncomputable def nw(d l f:Int):Int:=if (f+d-1)%7=6 then (if 1<d then d-1 else 3) else if (f+d-1)%7=0 then (if d<l then d+1 else l-2) else d
noncomputable def aqR(d l f:Int):Int:=if l<d then 0 else 1*2^(nw d l f).toNat
noncomputable def wk(f:Int)(n:Nat):Bool:=decide (1<=(f+(1+(n:Int))-1)%7)&&decide ((f+(1+(n:Int))-1)%7<=5)
noncomputable def ay3(f:Int):Nat->List Int
 |0=>[]
 |n+1=>ay3 f n++(if wk f n=true then [1+(n:Int)] else [])
noncomputable def ab(i:Int):Int:=if i<0 then -i else i
noncomputable def stp(d acc o:Int):Int:=if acc=0 then o else if ab (o-d)<ab (acc-d) then o else acc
noncomputable def adM(w m f:Int):Int:=1+(w-f)%7+7*(m-1)
noncomputable def an5(w m l f:Int):Int:=if l<adM w m f then 0 else 1*2^(adM w m f).toNat
noncomputable def ae5(w l f:Int):Int:=l-((f+l-1)%7-w)%7
noncomputable def aDE(w l f:Int):Int:=1*2^(ae5 w l f).toNat
noncomputable def wks(m:Int):Nat->Int
 |0=>0
 |n+1=>Builtin.bitOr (wks m n) (m*2^(7*(0+(n:Int))).toNat)
noncomputable def wkD(m l f:Int):Int:=Builtin.bitAnd (wks m 6 / 2^f.toNat*2^(1:Int).toNat) (2*2^l.toNat-2)
noncomputable def onD(f w:Int)(n:Nat):Bool:=decide ((f+(1+(n:Int))-1)%7=w)
noncomputable def onN(f w:Int):Nat->List Int
 |0=>[]
 |n+1=>onN f w n++(if onD f w n=true then [1+(n:Int)] else [])
noncomputable def hasW(m f:Int)(n:Nat):Bool:=decide (Builtin.bitAnd (m / 2^((f+(1+(n:Int))-1)%7).toNat) 1=1)
noncomputable def wkN(m f:Int):Nat->List Int
 |0=>[]
 |n+1=>wkN m f n++(if hasW m f n=true then [1+(n:Int)] else [])
noncomputable def apG:List Int:=[1,2,3,4,5,6,7,8,9,10,11,12,13,14,15,16,17,18,19,20,21,22,23,24,25,26,27,28,29,30,31]
noncomputable def ls4:List Int:=[28,29,30,31]
noncomputable def fs7:List Int:=[0,1,2,3,4,5,6]
noncomputable def ms5:List Int:=[1,2,3,4,5]
noncomputable def aq4:List Int:=(List.range 128).map fun n:Nat=>(n:Int)
theorem ax4:∀l∈ls4,∀f∈fs7,∀d∈apG,d<=l->(ay3 f l.toNat).foldl (stp d) 0=nw d l f/\1<=nw d l f/\nw d l f<=31:=by decide +kernel
theorem aAY:∀l∈ls4,∀f∈fs7,∀w∈fs7,∀m∈ms5,an5 w m l f=amO (aJ1 (onN f w l.toNat) (some (m-1)) (some m))/\okA (aJ1 (onN f w l.toNat) (some (m-1)) (some m))=true/\0<=adM w m f/\adM w m f<=100:=by decide +kernel
theorem aBL:∀l∈ls4,∀f∈fs7,∀w∈fs7,atI ((onN f w l.toNat).map V.int) (-1)=some (V.int (ae5 w l f))/\0<=ae5 w l f/\ae5 w l f<=31:=by decide +kernel
theorem aEZ:∀m∈aq4,∀l∈ls4,∀f∈fs7,wkD m l f=amO (wkN m f l.toNat)/\okA (wkN m f l.toNat)=true:=by decide +kernel
theorem az7:∀m∈aq4,(∀n:Nat,n<7->(wks m n).natAbs<2^60)/\∀f∈fs7,(wks m 6 / 2^f.toNat).natAbs<2^64:=by decide +kernel
theorem atA{l:Int}(h0:28<=l)(h1:l<=31):l∈ls4:=by
 have:l=28∨l=29∨l=30∨l=31:=by omega
 rcases this with rfl | rfl | rfl | rfl<;>decide
theorem al2{f:Int}(h0:0<=f)(h1:f<=6):f∈fs7:=by
 have:f=0∨f=1∨f=2∨f=3∨f=4∨f=5∨f=6:=by omega
 rcases this with rfl | rfl | rfl | rfl | rfl | rfl | rfl<;>decide
theorem in_m{m:Int}(h0:1<=m)(h1:m<=5):m∈ms5:=by
 have:m=1∨m=2∨m=3∨m=4∨m=5:=by omega
 rcases this with rfl | rfl | rfl | rfl | rfl<;>decide
theorem aF6{m:Int}(h0:0<=m)(h1:m<=127):m∈aq4:=by
 unfold aq4
 exact bR.mpr ⟨m.toNat,cR.mpr (by omega),by omega⟩
theorem aF7{d:Int}(h0:1<=d)(h1:d<=31):d∈apG:=by
 have e:d=1+((d-1).toNat:Int):=by omega
 have hn:(d-1).toNat<31:=by omega
 rw[e]
 generalize (d-1).toNat=n at hn
 have all:∀n:Nat,n<31->(1+(n:Int))∈apG:=by decide +kernel
 exact all n hn
noncomputable def Ok3(d l f:Int):Prop:=(1<=d/\d<=31)/\(28<=l/\l<=31)/\0<=f/\f<=6
theorem au3{d l f:Int}(h:Ok3 d l f)(hd:d<=l):(ay3 f l.toNat).foldl (stp d) 0=nw d l f/\1<=nw d l f/\nw d l f<=31:=ax4 l (atA h.2.1.1 h.2.1.2) f (al2 h.2.2.1 h.2.2.2) d (aF7 h.1.1 h.1.2) hd
theorem Lf.last{l f:Int}(h:Lf l f):Ok3 l l f:=⟨⟨by have:=h.1.1;omega,h.1.2⟩,h.1,h.2⟩
theorem aAO{m:Int}(h:0<=m)(n:Nat):aoC m n=tb m (n+1):=by
 have e:(1+(n:Int)).toNat=n+1:=by omega
 unfold aoC
 rw[e]
 by_cases c:tb m (n+1)=true
 ·rw[c];exact dQ ((ajT h _).mpr c)
 ·have c':tb m (n+1)=false:=by simpa using c
  rw[c'];exact dU fun q=>c ((ajT h _).mp q)
noncomputable def axM(m:Int)(i:Nat):Bool:=decide (1<=i)&&tb m i
theorem arE{m:Int}(h:0<=m):∀n:Nat,amO (ahW m n)=mk_ (axM m) (n+1)
 |0=>by
  have e:axM m 0=false:=rfl
  rw[auP,aCB,e]
  rfl
 |n+1=>by
  have ih:=arE h n
  rw[auP,←ih]
  show amO (ahW m n++(if aoC m n=true then [1+(n:Int)] else []))=_
  have e:axM m (n+1)=aoC m n:=by rw[aAO h];unfold axM;simp
  have e1:(1+(n:Int)).toNat=n+1:=by omega
  rw[e]
  unfold amO
  rw[bD,List.sum_append]
  by_cases c:aoC m n=true
  ·rw[if_pos c,if_pos c]
   show _+(1*2^(1+(n:Int)).toNat+0)=_
   rw[e1]
   omega
  ·rw[if_neg c,if_neg c]
   rfl
theorem aoP(m:Int):∀n:Nat,(ahW m n).length<=n/\(ahW m n).Pairwise (·<·)/\∀d∈ahW m n,0<=d/\d<=n
 |0=>⟨aQ _,.nil,fun d hd=>nomatch hd⟩
 |n+1=>by
  obtain⟨h1,hp,h2⟩:=aoP m n
  show (ahW m n++(if aoC m n=true then [1+(n:Int)] else [])).length<=n+1/\(ahW m n++(if aoC m n=true then [1+(n:Int)] else [])).Pairwise (·<·)/\∀d∈ahW m n++(if aoC m n=true then [1+(n:Int)] else []),_
  split
  ·refine⟨by simp;omega,List.pairwise_append.mpr ⟨hp,.cons (fun _ h=>nomatch h) .nil,fun a ha b hb=>?_⟩,fun d hd=>?_⟩
   ·have:b=1+(n:Int):=by simpa using hb
    have:=h2 a ha
    omega
   ·rcases bH.mp hd with z | z
    ·have:=h2 d z;omega
    ·have:d=1+(n:Int):=by simpa using z
     omega
  ·rw[cJ]
   refine⟨by omega,hp,fun d hd=>?_⟩
   have:=h2 d hd;omega
theorem as6{m l:Int}(h:0<=m)(hl:28<=l/\l<=31):avM m l=amO (ahW m l.toNat)/\(ahW m l.toNat).length<=31/\(ahW m l.toNat).Pairwise (·<·)/\∀d∈ahW m l.toNat,0<=d/\d<=31:=by
 obtain⟨k1,kp,k2⟩:=aoP m l.toNat
 have hp:=aaS l.toNat
 refine⟨?_,by omega,kp,fun d hd=>by have:=k2 d hd;omega⟩
 rw[arE h]
 have e:(2*2^l.toNat-2:Int)=(2^l.toNat-1)*2^1:=by omega
 have n0:(0:Int)<=2^l.toNat-1:=by omega
 have n1:(0:Int)<=(2^l.toNat-1)*2^1:=by omega
 unfold avM
 rw[e]
 refine ac5 (aoQ h n1) (ax7 _ _) fun i=>?_
 rw[akI h n1,apE n0,at9,ayB]
 unfold axM
 by_cases c1:1<=i
 ·have:(i-1<l.toNat)↔(i<l.toNat+1):=by omega
  simp only[c1,this,decide_true,Bool.true_and]
  rw[Bool.and_comm]
 ·simp[c1]
theorem rng{l:Int}(hl:28<=l/\l<=31):(-(2^62)<=(1:Int)/\(1:Int)<2^62/\ -(2^62)<=l+1/\l+1<2^62)/\(l+1-1).toNat=l.toNat/\(l+1-1).toNat<=sizeLine:=by
 obtain⟨h0,h1⟩:=hl
 refine⟨⟨by decide,by decide,by omega,by omega⟩,by omega,?_⟩
 rw[dN]
 omega
noncomputable def aoF(w m:Int):List (Str×V):=aaT "many" (.int m) (aaT "weekday" (.int w) [])
theorem ne1:¬(("weekday":Str)="many"):=by decide +kernel
theorem aEQ(w m:Int):(aoF w m).lookup ("weekday":Str)=some (.int w):=by
 unfold aoF
 rw[aaE,if_neg ne1,aaE,if_pos rfl]
theorem aEY(w m:Int):(aoF w m).lookup ("many":Str)=some (.int m):=by
 unfold aoF
 rw[aaE,if_pos rfl]
theorem aB9(w m:Int):(aoF w m).lookup ("days":Str)=none:=by
 unfold aoF
 rw[aaE,if_neg (by decide +kernel),aaE,if_neg (by decide +kernel)]
 rfl
noncomputable def Mk.due:Mk->Int->Int->Int
 |.num m,l,_=>avM m l
 |.lst b,l,_=>arS b l
 |.nea d,l,f=>aqR d l f
 |.wrk,l,f=>1*2^(nw l l f).toNat
 |.wkd m,l,f=>wkD m l f
 |.nth w m,l,f=>an5 w m l f
 |.one w,l,f=>aDE w l f
 |.nil,_,_=>0
noncomputable def Mk.ok:Mk->Prop
 |.num m=>0<=m
 |.lst b=>0<=b/\b<=30
 |.nea d=>1<=d/\d<=31
 |.wrk=>True
 |.wkd m=>0<=m/\m<=127
 |.nth w m=>(0<=w/\w<=6)/\1<=m/\m<=5
 |.one w=>0<=w/\w<=6
 |.nil=>True
noncomputable def Mk.wk:Mk->Bool
 |.wkd _ | .nth _ _ | .one _=>true
 |_=>false
noncomputable def Mk.tup:Mk->List V
 |.num m=>[.str (Tx [112,108,97,105,110]),.int m,.int 0]
 |.wkd m=>[.str (Tx [112,108,97,105,110]),.int m,.int 0]
 |.lst b=>[.str (Tx [108,97,115,116]),.int b,.int 0]
 |.nea d=>[.str (Tx [110,101,97,114]),.int d,.int 0]
 |.wrk=>[.str (Tx [119,111,114,107]),.int 0,.int 0]
 |.nth w m=>[.str (Tx [110,116,104]),.int w,.int m]
 |.one w=>[.str (Tx [108,97,115,116,111,110,101]),.int w,.int 0]
 |.nil=>[]
noncomputable def Mk.sp:Mk->Bool
 |.nil=>false
 |_=>true
theorem ayJ{k:Mk}{l f:Int}(hk:k.ok)(h:Lf l f):0<=k.due l f:=by
 have p1:∀n:Nat,(0:Int)<=1*2^n:=fun n=>by have:=aaS n;omega
 cases k with
 |num m=>show 0<=avM m l;rw[(as6 hk h.1).1];exact au4 _
 |lst b=>show 0<=arS b l;unfold arS;split;exact aV 0;exact p1 _
 |nea d=>show 0<=aqR d l f;unfold aqR;split;exact aV 0;exact p1 _
 |wrk=>exact p1 _
 |wkd m=>show 0<=wkD m l f;rw[(aEZ m (aF6 hk.1 hk.2) l (atA h.1.1 h.1.2) f (al2 h.2.1 h.2.2)).1];exact au4 _
 |nth w m=>show 0<=an5 w m l f;unfold an5;split;exact aV 0;exact p1 _
 |one w=>exact p1 _
 |nil=>exact aV 0
noncomputable def orK(ks:List Mk)(l f:Int):Int:=orM (ks.map fun k=>k.due l f)
theorem azR(ks:List Mk)(k:Mk)(l f:Int):orK (ks++[k]) l f=Builtin.bitOr (orK ks l f) (k.due l f):=by unfold orK;rw[bD];exact aeI _ _
structure Cs where
 (nu la ne lw we nt lo ma:Addr)
noncomputable def MkAt(c:Cs)(H:Hp)(x:Addr):Mk->Prop
 |.num m=>∃dx,H x=some (.ins c.nu dx [("mask",.int m)])
 |.lst b=>∃dx,H x=some (.ins c.la dx [("back",.int b)])
 |.nea d=>∃dx,H x=some (.ins c.ne dx [("day",.int d)])
 |.wrk=>∃dx,H x=some (.ins c.lw dx [])
 |.wkd m=>∃dx,H x=some (.ins c.we dx [("mask",.int m)])
 |.nth w m=>∃dx,H x=some (.ins c.nt dx (aoF w m))
 |.one w=>∃dx,H x=some (.ins c.lo dx [("weekday",.int w)])
 |.nil=>∃dx,H x=some (.ins c.ma dx [])
theorem MkAt.keep{c:Cs}{H H':Hp}(s:Keep H H'){x:Addr}{k:Mk}(h:MkAt c H x k):MkAt c H' x k:=by
 cases k<;>(obtain⟨dx,h⟩:=h;exact⟨dx,s.ins h⟩)
noncomputable def PrAt(H:Hp)(p:Addr)(k:Mk):Prop:=k.ok/\k.sp=true/\∃u,H p=some (.tup [.ref u,.bl k.wk])/\H u=some (.tup k.tup)
theorem PrAt.keep{H H':Hp}(s:Keep H H'){p:Addr}{k:Mk}(h:PrAt H p k):PrAt H' p k:=by
 obtain⟨o,e,u,h1,h2⟩:=h
 exact⟨o,e,u,s.tup h1,s.tup h2⟩
noncomputable abbrev Ft(R:Addr->Mk->Prop):List Addr->List Mk->Prop:=Paired R
theorem Ft.get{R:Addr->Mk->Prop}:∀{ps:List Addr} {ks:List Mk},Ft R ps ks->∀{i:Nat} {p:Addr},ps[i]? =some p->∃k,ks[i]? =some k/\R p k
 |_,_,.nil,_,_,h=>nomatch h
 |_,_,.cons r _,0,_,h=>by cases h;exact⟨_,rfl,r⟩
 |_,_,.cons _ t,i+1,_,h=>Ft.get t h
theorem Ft.keepM{c:Cs}{H H':Hp}(s:Keep H H'){ps:List Addr}{ks:List Mk}(h:Ft (MkAt c H) ps ks):Ft (MkAt c H') ps ks:=Paired.imp' (fun _ _ z=>z.keep s) h
theorem Ft.app{R:Addr->Mk->Prop}:∀{ps:List Addr} {ks:List Mk} {ps':List Addr} {ks':List Mk},Ft R ps ks->Ft R ps' ks'->Ft R (ps++ps') (ks++ks')
 |_,_,_,_,.nil,h=>h
 |_,_,_,_,.cons r t,h=>.cons r (Ft.app t h)
end KM
namespace L2
open PySem
theorem aHA{us:List Value}(h:us.length=1):∃a,us=[a]:=by
 cases us with
 |nil=>cases h
 |cons a r=>cases r with
  |nil=>exact⟨a,rfl⟩
  |cons b r=>cases h
theorem aAR{us:List Value}{n:Nat}(h:us.length=n+1):∃a r,us=a::r/\r.length=n:=by
 cases us with
 |nil=>cases h
 |cons a r=>exact⟨a,r,rfl,Nat.succ.inj h⟩
theorem aMJ{us:List Value}(h:us.length=2):∃a b,us=[a,b]:=by
 obtain⟨a,r,rfl,h'⟩:=aAR h
 obtain⟨b,rfl⟩:=aHA h'
 exact⟨a,b,rfl⟩
theorem aMG{us:List Value}(h:us.length=3):∃a b c,us=[a,b,c]:=by
 obtain⟨a,r,rfl,h'⟩:=aAR h
 obtain⟨b,c,rfl⟩:=aMJ h'
 exact⟨a,b,c,rfl⟩
theorem aIF{us:List Value}(h:us.length=4):∃a b c d,us=[a,b,c,d]:=by
 obtain⟨a,r,rfl,h'⟩:=aAR h
 obtain⟨b,c,d,rfl⟩:=aMG h'
 exact⟨a,b,c,d,rfl⟩
theorem len5{us:List Value}(h:us.length=5):∃a b c d e,us=[a,b,c,d,e]:=by
 obtain⟨a,r,rfl,h'⟩:=aAR h
 obtain⟨b,c,d,e,rfl⟩:=aIF h'
 exact⟨a,b,c,d,e,rfl⟩
structure DfA(P:Program)(w:World)(K:FG)(mg:Str->Option Value)(base:Heap)(f:Addr)(k:Nat)(ps:List Str)(sp:Sp):Prop where
 ex:∃fd:FuncData,FnOk P w K mg base CX0 k f fd ps sp/\Binds K fd ps []/\PySem.W.keepIn K (.ref f)=true
theorem Df.at_{P:Program}{w:World}{K:FG}{mg:Str->Option Value}{base:Heap}{x:Str}{k:Nat}{ps:List Str}{sp:Sp}{f:Addr}(D:Df P w K mg base x k ps sp)(hm:mg x=some (.ref f)):DfA P w K mg base f k ps sp:=by
 obtain⟨f',fd,F,hb,hm',kp⟩:=D.ex
 rw[hm] at hm'
 cases hm'
 exact⟨fd,F,hb,kp⟩
noncomputable def aER(f:Addr)(sp:Sp)(tv:TE)(t:TA):TE:=fun σ H Q=>tv σ H fun v H1=>v=.ref f/\anL sp [] E0 t σ H1 Q
section
variable{X:Cx}{f:Addr}{k k':Nat}{ps:List Str}{sp:Sp}{y:Str}{e:Expr}{es:List Expr}{t:TA}{tv:TE}{p pos:Pos}
theorem eDV(D:DfA X.prog X.w X.K X.mg X.base f k ps sp)(hr:Room k' X.A)(hv:E X (.Name y p) tv)(ha:As X (e::es) t)(hk:k<=k':=by decide)
  (he:starEach (e::es) X.env=(false,eval e X.env)::starEach es X.env:=by rfl) (hpl:(backTo pos (starEach es X.env)).any (·.1)=false:=by rfl):E X (.Call (.Name y p) (e::es) [] pos) (aER f sp tv t):=by
 obtain⟨fd,F,hb,kp⟩:=D.ex
 refine⟨fun pins s σ H Q I h=>?_⟩
 refine dW (thn (hv.h pins s σ H _ I h) fun v s1 ⟨x,H1,I1,r1,ex,q⟩=>?_)
 subst ex
 cases r1
 refine PySem.W.callWith_K (h₀:=X.base) I1.ok.mod.kin kp (thn (ha.h pos pins s1 σ H1 _ I1 q) fun us s2 ⟨vs,H2,I2,r,q2⟩=>⟨I2.kIn,?_⟩) he hpl
 exact ajX F (hr.mono hk) hb .nil ajW I2 r q2
end
section
variable{X:Cx}
noncomputable def aPA:V->List V->Hp->VK->Prop:=fun x vs H Q=>∃l p:List Nat,x=.str (Tx l)/\vs=[.str (Tx p)]/\Q (.bl (decide (l.take p.length=p))) H
theorem aDR(l p:List Nat):(decide (0+(Tx p).length<=(Tx l).length)&&Builtin.Str.subAt (Tx l) (Tx p) 0)=decide (l.take p.length=p):=by
 rw[abK,abK]
 have e:(Tx l).cps.extract 0 (0+(Tx p).length)=(l.take p.length).toArray:=by
  rw[abK]
  show l.toArray.extract 0 (0+p.length)=_
  simp
 have e2:(((l.take p.length).toArray==p.toArray:Bool))=decide (l.take p.length=p):=by
  by_cases h:l.take p.length=p
  ·rw[h];simp
  ·rw[dU h]
   exact beq_eq_false_iff_ne.mpr fun z=>h (by simpa using congrArg Array.toList z)
 unfold Builtin.Str.subAt
 rw[e]
 show (_&&((l.take p.length).toArray==p.toArray))=_
 rw[e2]
 by_cases h:l.take p.length=p
 ·have:0+p.length<=l.length:=by
   have:=congrArg List.length h
   rw[cL] at this
   omega
  rw[dQ this,Bool.true_and]
 ·rw[dU h,Bool.and_false]
theorem aFM:MtR X "str.startswith" aPA:=by
 intro pins s σ H x xs v us Q I rx rv h
 obtain⟨l,p,rfl,rfl,q⟩:=h
 obtain⟨u,rfl,r1⟩:=ac3 rv
 obtain⟨t',rfl⟩:=r1
 obtain⟨t,rfl⟩:=rx
 refine call_gives PySem.F.slot_str_startswith (typeIs_str _ _ _) PySem.F.entry_str_startswith (PySem.F.args_str_startswith_2 _ _) (gives_str_startswith (Tx l) (Tx p) t t') ?_
 rw[aDR]
 exact⟨.bl _,H,I,rfl,q⟩
theorem eSwN{o e:Expr}{to te:TE}{apos cpos:Pos}(ho:E X o to)(he:E X e te)(hbase:attributeBase o "startswith" X.env (eval o X.env)=eval o X.env:=by rfl)
  (hfew:((backTo cpos (starEach [e] X.env)).all (fun x=> !x.1)&&(backToKw cpos (keywordEach [] X.env)).all (fun x=>x.1.isSome)&&decide (([e]:List Expr).length+([]:List Keyword).length+(if ([]:List Keyword).isEmpty then 0 else 1)<30))=true:=by rfl)
  (hline:(apos.endLine==cpos.line)=true:=by rfl) (hs:starEach [e] X.env=(false,eval e X.env)::starEach [] X.env:=by rfl) (hplain:(backTo cpos (starEach [] X.env)).any (·.1)=false:=by rfl):
  E X (.Call (.Attribute o "startswith" apos) [e] [] cpos) (tBM X.K "str" aPA to (af1 te agB)):=
 ⟨arA PySem.F.plainAttrs_str PySem.F.slot_str_startswith PySem.F.type_str_startswith aFM ho.h (ac4 he.h aeT hs) hbase hfew hline hs hplain⟩
noncomputable def rEw:V->List V->Hp->VK->Prop:=fun x vs H Q=>∃(l:List Nat) (c:Nat),x=.str (Tx l)/\vs=[.str (Tx [c])]/\Q (.bl (decide (l.getLast? =some c))) H
theorem aJ0(l:List Nat)(c:Nat):(decide (0+(Tx [c]).length<=(Tx l).length)&&Builtin.Str.subAt (Tx l) (Tx [c]) ((Tx l).length-(Tx [c]).length))=decide (l.getLast? =some c):=by
 rw[abK,abK]
 rcases List.eq_nil_or_concat l with rfl | ⟨r,x,rfl⟩
 ·simp
 ·rw[List.concat_eq_append]
  have e:(Tx (r++[x])).cps.extract ((r++[x]).length - [c].length) ((r++[x]).length - [c].length+(Tx [c]).length)= #[x]:=by
   show (r++[x]).toArray.extract ((r++[x]).length-1) ((r++[x]).length-1+1)= #[x]
   rw[aU,bM,Nat.add_sub_cancel]
   simp
  unfold Builtin.Str.subAt
  rw[e]
  have e2:decide (0+[c].length<=(r++[x]).length)=true:=by simp
  rw[e2,Bool.true_and,List.getLast?_append,List.getLast?_singleton]
  show (#[x]== #[c])=decide (some x=some c)
  by_cases h:x=c
  ·subst h;simp
  ·have h2:¬some x=some c:=fun z=>h (a8 z)
   rw[dU h2]
   exact beq_eq_false_iff_ne.mpr fun z=>h (by simpa using z)
theorem aK4:MtR X "str.endswith" rEw:=by
 intro pins s σ H x xs v us Q I rx rv h
 obtain⟨l,c,rfl,rfl,q⟩:=h
 obtain⟨u,rfl,r1⟩:=ac3 rv
 obtain⟨t',rfl⟩:=r1
 obtain⟨t,rfl⟩:=rx
 refine call_gives PySem.F.slot_str_endswith (typeIs_str _ _ _) PySem.F.entry_str_endswith (PySem.F.args_str_endswith_2 _ _) (gives_str_endswith (Tx l) (Tx [c]) t t') ?_
 rw[aJ0]
 exact⟨.bl _,H,I,rfl,q⟩
theorem eEw{o e:Expr}{to te:TE}{apos cpos:Pos}(ho:E X o to)(he:E X e te)(hbase:attributeBase o "endswith" X.env (eval o X.env)=eval o X.env:=by rfl)
  (hfew:((backTo cpos (starEach [e] X.env)).all (fun x=> !x.1)&&(backToKw cpos (keywordEach [] X.env)).all (fun x=>x.1.isSome)&&decide (([e]:List Expr).length+([]:List Keyword).length+(if ([]:List Keyword).isEmpty then 0 else 1)<30))=true:=by rfl)
  (hline:(apos.endLine==cpos.line)=true:=by rfl) (hs:starEach [e] X.env=(false,eval e X.env)::starEach [] X.env:=by rfl) (hplain:(backTo cpos (starEach [] X.env)).any (·.1)=false:=by rfl):
  E X (.Call (.Attribute o "endswith" apos) [e] [] cpos) (tBM X.K "str" rEw to (af1 te agB)):=
 ⟨arA PySem.F.plainAttrs_str PySem.F.slot_str_endswith PySem.F.type_str_endswith aK4 ho.h (ac4 he.h aeT hs) hbase hfew hline hs hplain⟩
end
end L2
namespace KM
open PySem PySem.Spec PyProof.Rows L2
noncomputable def ac7(t:List Nat):Option Mk:=
 if t=[76] then some (.lst 0) else if t=[76,87] then some .wrk
 else if t.take ([76,45]:List Nat).length=[76,45] then (aaZ 1 30 (afA t (some 2) none)).map Mk.lst
 else if t.getLast? =some 87 then (aaZ 1 31 (afA t none (some (-1)))).map Mk.nea else none
noncomputable def wdN(t:List Nat):Option Int:=(aaZ 0 7 t).map fun n=>if n=7 then 0 else n
noncomputable def aC4:Option Int->Option Int->Option Mk
 |some w,some m=>some (.nth w m)
 |_,_=>none
noncomputable def ao8(t:List Nat):Option Mk:=
 if t.getLast? =some 76 then (wdN (afA t none (some (-1)))).map Mk.one
 else match spl 35 t with
  |[a,b]=>aC4 (wdN a) (aaZ 1 5 b)
  |_=>none
noncomputable def rdM(wk:Bool)(t:List Nat):Option Mk:=if wk=true then ao8 t else ac7 t
noncomputable def MkV(c:Cs)(H:Hp)(v:V):Option Mk->Prop
 |none=>v=.non
 |some k=>∃x,v=.ref x/\MkAt c H x k
theorem abW(c:Nat):∀(l:List Nat),∀w∈spl c l,w.length<=l.length
 |[],w,hw=>by simp[spl] at hw;simp[hw]
 |x::r,w,hw=>by
  have ih:=abW c r
  unfold spl at hw
  split at hw
  ·rcases aW.mp hw with z | z
   ·subst z;simp
   ·have:=ih w z;simp;omega
  ·split at hw
   ·rename_i h t e
    rcases aW.mp hw with z | z
    ·subst z
     have:=ih h (by rw[e];simp)
     simp;omega
    ·have:=ih w (by rw[e];simp[z])
     simp;omega
   ·have:w=[x]:=by simpa using hw
    subst this;simp
noncomputable def plP(lo hi:Int)(ws:List (List Nat)):List Int:=ws.filterMap (aaJ lo hi)
noncomputable def mkP(wk:Bool)(lo hi:Int)(ws:List (List Nat)):List Mk:=ws.filterMap fun w=>if (aaJ lo hi w).isSome=true then none else rdM wk w
theorem aAF{lo hi:Int}{ws:List (List Nat)}{w:List Nat}{m:Int}(h:aaJ lo hi w=some m):plP lo hi (ws++[w])=plP lo hi ws++[m]:=by
 unfold plP
 rw[dF]
 simp[h]
theorem azE{lo hi:Int}{ws:List (List Nat)}{w:List Nat}(h:aaJ lo hi w=none):plP lo hi (ws++[w])=plP lo hi ws:=by
 unfold plP
 rw[dF]
 simp[h]
theorem aF5{wk:Bool}{lo hi:Int}{ws:List (List Nat)}{w:List Nat}{m:Int}(h:aaJ lo hi w=some m):mkP wk lo hi (ws++[w])=mkP wk lo hi ws:=by
 unfold mkP
 rw[dF]
 simp[h]
theorem ajQ{wk:Bool}{lo hi:Int}{ws:List (List Nat)}{w:List Nat}{k:Mk}(h:aaJ lo hi w=none)(hk:rdM wk w=some k):mkP wk lo hi (ws++[w])=mkP wk lo hi ws++[k]:=by
 unfold mkP
 rw[dF]
 simp[h,hk]
theorem ar5(wk:Bool)(lo hi:Int)(ws:List (List Nat))(i:Nat):(mkP wk lo hi (ws.take i)).length<=(mkP wk lo hi ws).length:=((List.take_sublist i ws).filterMap _).length_le
structure ItemsOk(wk:Bool)(lo hi:Int)(l:List Nat):Prop where
 len:l.length<=300
 few:(spl 44 l).length<=40
 all:∀w∈spl 44 l,(aaJ lo hi w).isSome=true∨(rdM wk w).isSome=true
 most:(mkP wk lo hi (spl 44 l)).length<=20
theorem aC1{xs:List V}(h:xs.length<=40):aaV xs none (some 40)=xs:=by
 unfold aaV
 have e1:HT.sIx xs.length 0 none=0:=rfl
 have e2:xs.length<=HT.sIx xs.length xs.length (some 40):=by
  show xs.length<=HT.sIx xs.length xs.length (some 40)
  unfold HT.sIx
  simp
  omega
 rw[e1,List.drop_zero,Nat.sub_zero]
 exact dH e2
noncomputable def RunV(H:Hp)(r:V):Option (Int×Int)->Prop
 |none=>r=.non
 |some (a,b)=>∃p,r=.ref p/\H p=some (.tup [.int a,.int b])
theorem aBT(es:List (Option Int)):(es.map oV).all afX=true:=by
 rw[List.all_map]
 refine bV.mpr fun x _=>?_
 cases x<;>rfl
noncomputable def wk7(m:Int):Int:=Builtin.bitAnd (Builtin.bitOr m (m / 2^(7:Int).toNat)) 127
noncomputable def afR(wk:Bool)(m:Int):List Mk:=if m=0 then [] else if wk=true then [.wkd (wk7 m)] else [.num m]
noncomputable def alA(wk:Bool)(lo hi:Int)(l:List Nat):List Mk:=afR wk (orM (plP lo hi (spl 44 l)))++mkP wk lo hi (spl 44 l)
noncomputable def Cl(t:List Nat):Prop:=(44∉t/\32∉t)/\t≠[]/\t.length<=8
instance (t:List Nat):Decidable (Cl t):=by unfold Cl;exact inferInstance
noncomputable def ad4(lo hi:Int)(t:List Nat)(ns:List Int):Prop:=aaJ lo hi t=some (aaN ns)/\Cl t/\(∀n∈ns,lo<=n/\n<=hi)/\ns≠[]/\ns.length<=64
theorem ac6{c:Nat}{a b:List Nat}{d:Nat}(h1:c∉a)(h2:c∉b)(h3:c≠d):c∉a++d::b:=by
 simp only[bH,aW,not_or]
 exact⟨h1,h3,h2⟩
theorem apH{a b:List Nat}{d:Nat}(ha:(44∉a/\32∉a)/\a≠[]/\a.length<=5)(hb:(44∉b/\32∉b)/\b.length<=2)(h1:44≠d)(h2:32≠d):Cl (a++d::b):=by
 refine⟨⟨ac6 ha.1.1 hb.1.1 h1,ac6 ha.1.2 hb.1.2 h2⟩,by simp,?_⟩
 have:=ha.2.2
 have:=hb.2
 rw[aU,bU]
 omega
theorem adS{n:Nat}(h:n<100):(44∉num n/\32∉num n)/\num n≠[]/\(num n).length<=2:=⟨⟨abH h (by decide),abH h (by decide)⟩,aEB n,(af6 n h).2.2.2⟩
theorem ahI{a b s lo hi:Int}(h0:0<=a)(h1:b<=63)(hab:a<=b)(hs:0<s)(hl:lo<=a)(hb:b<=hi):(∀n∈ab0 a b s,lo<=n/\n<=hi)/\ab0 a b s≠[]/\(ab0 a b s).length<=64:=by
 refine⟨fun n hn=>?_,fun e=>?_,?_⟩
 ·have:=(apC hs).mp hn
  omega
 ·have:a∈ab0 a b s:=(apC hs).mpr ⟨aV _,hab,by rw[Int.sub_self];rfl⟩
  rw[e] at this
  cases this
 ·rw[acH,aR,dE,ajS hs,if_pos hab]
  have:=Int.ediv_le_self (a:=b-a) s (by omega)
  omega
theorem aA4(a:Int):ab0 a a 1=[a]:=by
 rw[acH,ajS (by decide),if_pos (aV a),Int.sub_self]
 show [a+((0:Nat):Int)*1]=[a]
 simp
theorem i1{lo hi a:Int}(h0:0<=lo)(h1:lo<=a)(h2:a<=hi)(h3:hi<=63):ad4 lo hi (num a.toNat) [a]:=by
 have ha:a.toNat<100:=by omega
 have e:=auX (lo:=lo) (hi:=hi) ha (by omega) (by omega)
 rw[bG (by omega)] at e
 have c:=adS ha
 have r:=ahI (a:=a) (b:=a) (s:=1) (lo:=lo) (hi:=hi) (by omega) (by omega) (by omega) (by decide) h1 h2
 have e2:=alQ (abH ha (by decide)) e
 unfold ajF at e2
 rw[aA4] at e2 r
 exact⟨e2,⟨c.1,c.2.1,by have:=c.2.2;omega⟩,r⟩
theorem i2{lo hi a b:Int}(h0:0<=lo)(h1:lo<=a)(h2:a<=b)(h4:b<=hi)(h3:hi<=63):ad4 lo hi (num a.toNat++45::num b.toNat) (ab0 a b 1):=by
 have ha:a.toNat<100:=by omega
 have hb:b.toNat<100:=by omega
 have e:=auY (lo:=lo) (hi:=hi) ha hb (by omega) (by omega) (by omega)
 rw[bG (by omega),bG (by omega)] at e
 have ca:=adS ha
 have cb:=adS hb
 exact⟨alQ (ac6 (abH ha (by decide)) (abH hb (by decide)) (by decide)) e,apH ⟨ca.1,ca.2.1,by have:=ca.2.2;omega⟩ ⟨cb.1,cb.2.2⟩ (by decide) (by decide),ahI (by omega) (by omega) h2 (by decide) h1 h4⟩
theorem i0{lo hi:Int}(h0:0<=lo)(h1:lo<=hi)(h3:hi<=63):ad4 lo hi [42] (ab0 lo hi 1):=
 ⟨alQ (by decide) aqM,by decide,ahI h0 h3 h1 (by decide) (aV _) (aV _)⟩
theorem i3{lo hi s:Int}(h0:0<=lo)(h1:lo<=hi)(h3:hi<=63)(hs:1<=s/\s<=99):ad4 lo hi ([42]++47::num s.toNat) (ab0 lo hi s):=by
 have hs':s.toNat<100:=by omega
 have e:=alI (show 47∉[42] by decide) (aqM (lo:=lo) (hi:=hi)) hs' (by omega)
 rw[if_neg (by decide),bG (by omega)] at e
 have cs:=adS hs'
 exact⟨e,apH (by decide) ⟨cs.1,cs.2.2⟩ (by decide) (by decide),ahI h0 h3 h1 (by omega) (aV _) (aV _)⟩
theorem i4{lo hi a s:Int}(h0:0<=lo)(h1:lo<=a)(h2:a<=hi)(h3:hi<=63)(hs:1<=s/\s<=99):ad4 lo hi (num a.toNat++47::num s.toNat) (ab0 a hi s):=by
 have ha:a.toNat<100:=by omega
 have hs':s.toNat<100:=by omega
 have e1:=auX (lo:=lo) (hi:=hi) ha (by omega) (by omega)
 have e:=alI (abH ha (by decide)) e1 hs' (by omega)
 rw[if_pos (af6 _ ha).1,bG (by omega),bG (by omega)] at e
 have ca:=adS ha
 have cs:=adS hs'
 exact⟨e,apH ⟨ca.1,ca.2.1,by have:=ca.2.2;omega⟩ ⟨cs.1,cs.2.2⟩ (by decide) (by decide),ahI (by omega) h3 h2 (by omega) h1 (aV _)⟩
theorem i5{lo hi a b s:Int}(h0:0<=lo)(h1:lo<=a)(h2:a<=b)(h4:b<=hi)(h3:hi<=63)(hs:1<=s/\s<=99):ad4 lo hi ((num a.toNat++45::num b.toNat)++47::num s.toNat) (ab0 a b s):=by
 have ha:a.toNat<100:=by omega
 have hb:b.toNat<100:=by omega
 have hs':s.toNat<100:=by omega
 have e1:=auY (lo:=lo) (hi:=hi) ha hb (by omega) (by omega) (by omega)
 have e:=alI (ac6 (abH ha (by decide)) (abH hb (by decide)) (by decide)) e1 hs' (by omega)
 rw[if_neg (by rw[aD9 (c:=45) (by simp) (by decide)];exact a9),bG (by omega),bG (by omega),bG (by omega)] at e
 have ca:=adS ha
 have cb:=adS hb
 have cs:=adS hs'
 refine⟨e,apH ⟨⟨ac6 ca.1.1 cb.1.1 (by decide),ac6 ca.1.2 cb.1.2 (by decide)⟩,by simp,?_⟩ ⟨cs.1,cs.2.2⟩ (by decide) (by decide),ahI (by omega) (by omega) h2 (by omega) h1 h4⟩
 have:=ca.2.2
 have:=cb.2.2
 rw[aU,bU]
 omega
theorem agD{m:Int}(h:0<=m)(i:Nat):0<=wk7 m/\tb (wk7 m) i=((tb m i||tb m (7+i))&&decide (i<7)):=by
 have h1:(0:Int)<=m / 2^(7:Int).toNat:=dA h (by decide)
 unfold wk7
 refine⟨aoQ (ak3 h h1) (by decide),?_⟩
 rw[akI (ak3 h h1) (by decide),aq9 h h1,adL h]
 have e:tb 127 i=decide (i<7):=at9 7 i
 rw[e]
 rfl
theorem aqX{ms:List Int}(h:∀m∈ms,0<=m):orM ms=0↔∀m∈ms,m=0:=by
 constructor
 ·intro e m hm
  refine ac5 (h m hm) (aV 0) fun i=>?_
  have z:=adT h i
  rw[e,abD] at z
  have:=cX.mp z.symm m hm
  rw[abD]
  simpa using this
 ·intro e
  refine ac5 (aeY h) (aV 0) fun i=>?_
  rw[adT h,abD,cX]
  intro m hm
  rw[e m hm,abD]
  exact a9
theorem azD{ms:List Int}(h:∀m∈ms,0<=m):wk7 (orM ms)=orM (ms.map wk7):=by
 have h':∀m∈ms.map wk7,0<=m:=fun m hm=>by
  obtain⟨z,hz,rfl⟩:=bR.mp hm
  exact (agD (h z hz) 0).1
 refine ac5 (agD (aeY h) 0).1 (aeY h') fun i=>?_
 rw[(agD (aeY h) i).2,adT h,adT h,adT h',List.any_map,cN]
 simp only[bJ,Bool.or_eq_true,List.any_eq_true,dR,Function.comp]
 constructor
 ·rintro⟨⟨m,hm,e⟩ | ⟨m,hm,e⟩,hi⟩
  ·exact⟨m,hm,by rw[(agD (h m hm) i).2,e,dQ hi];rfl⟩
  ·exact⟨m,hm,by rw[(agD (h m hm) i).2,e,dQ hi,Bool.or_true];rfl⟩
 ·rintro⟨m,hm,e⟩
  rw[(agD (h m hm) i).2,bJ,Bool.or_eq_true,dR] at e
  rcases e with ⟨e | e,hi⟩
  ·exact⟨.inl ⟨m,hm,e⟩,hi⟩
  ·exact⟨.inr ⟨m,hm,e⟩,hi⟩
theorem aCP{m:Int}(h0:0<m)(h1:m<=255):wk7 m≠0/\0<=wk7 m/\wk7 m<=127:=by
 have all:∀n:Nat,n<256->0<n->wk7 (n:Int)≠0/\0<=wk7 (n:Int)/\wk7 (n:Int)<=127:=by decide +kernel
 have e:m=((m.toNat:Nat):Int):=by omega
 rw[e]
 exact all m.toNat (by omega) (by omega)
noncomputable def SpT(b:Bool)(t:List Nat):Mk->Prop
 |.num m=>b=false/\aaJ 1 31 t=some m/\0<m
 |.wkd m=>b=true/\∃M,aaJ 0 7 t=some M/\(0<M/\M<=255)/\m=wk7 M
 |.nil=>False
 |k=>aaJ (if b=true then 0 else 1) (if b=true then 7 else 31) t=none/\rdM b t=some k
theorem ay8:SpT false [76] (.lst 0)/\Cl [76]:=by
 refine⟨⟨?_,?_⟩,by decide⟩<;>decide +kernel
theorem axK:SpT false [76,87] .wrk/\Cl [76,87]:=by
 refine⟨⟨?_,?_⟩,by decide⟩<;>decide +kernel
theorem aEW:∀n:Nat,n<31->1<=n->(aaJ 1 31 ([76,45]++num n)=none/\rdM false ([76,45]++num n)=some (.lst n))/\Cl ([76,45]++num n):=by decide +kernel
theorem aDX:∀n:Nat,n<32->1<=n->(aaJ 1 31 (num n++[87])=none/\rdM false (num n++[87])=some (.nea n))/\Cl (num n++[87]):=by decide +kernel
theorem aGQ:∀n:Nat,n<8->(aaJ 0 7 (num n++[76])=none/\rdM true (num n++[76])=some (.one ((n:Int)%7)))/\Cl (num n++[76]):=by decide +kernel
theorem aCX:∀n:Nat,n<8->∀m:Nat,m<6->1<=m->(aaJ 0 7 (num n++[35]++num m)=none/\rdM true (num n++[35]++num m)=some (.nth ((n:Int)%7) m))/\Cl (num n++[35]++num m):=by decide +kernel
theorem ahE{ns:List Int}(h:ns≠[])(hn:∀n∈ns,0<=n):0<aaN ns:=by
 have h0:=aeV ns
 rcases Int.lt_or_eq_of_le h0 with h1 | h1
 ·exact h1
 ·cases ns with
  |nil=>exact absurd rfl h
  |cons n r=>
   have z:=agU (n::r) n.toNat
   rw[←h1,abD,cI] at z
   simp at z
theorem akH{ns:List Int}{n:Nat}(hn:∀z∈ns,0<=z/\z<(n:Int)):aaN ns<2^n:=by
 have e:aaN ns=mk_ (tb (aaN ns)) n:=by
  refine ac5 (aeV _) (ax7 _ _) fun i=>?_
  rw[ayB]
  by_cases c:i<n
  ·rw[dQ c,Bool.true_and]
  ·rw[dU c,Bool.false_and,agU,cX]
   intro z hz
   have:=hn z hz
   have:¬z.toNat=i:=by omega
   simpa using this
 rw[e]
 exact aCM _ _
end KM
namespace L2
open PySem PySem.Spec PyProof.Rows PySem.SeqAt
section
variable{X:Cx}
end
end L2
namespace KM
open PySem PySem.Spec PyProof.Rows L2
noncomputable def TpAt(b:Bool)(H:Hp)(u:Addr)(k:Mk):Prop:=H u=some (.tup k.tup)/\k.sp=true/\k.wk=b/\k.ok
theorem TpAt.keep{b:Bool}{H H':Hp}(s:Keep H H'){u:Addr}{k:Mk}(h:TpAt b H u k):TpAt b H' u k:=⟨s.tup h.1,h.2⟩
theorem Ft.keepT{b:Bool}{H H':Hp}(s:Keep H H'){ps:List Addr}{ks:List Mk}(h:Ft (TpAt b H) ps ks):Ft (TpAt b H') ps ks:=Paired.imp' (fun _ _ z=>z.keep s) h
noncomputable def Mk.pl:Mk->Option Int
 |.num m=>some m
 |.wkd m=>some m
 |_=>none
noncomputable def plK(ks:List Mk):List Int:=ks.filterMap Mk.pl
noncomputable def otK(ks:List Mk):List Mk:=ks.filter fun k=>k.pl.isNone
noncomputable def au6(b:Bool)(M:Int):List Mk:=if M=0 then [] else if b=true then [.wkd M] else [.num M]
noncomputable def azS(b:Bool)(ks:List Mk):List Mk:=au6 b (orM (plK ks))++otK ks
theorem aMT{b:Bool}{ks:List Mk}(h:∀k∈ks,k.sp=true/\k.wk=b/\k.ok):∀m∈plK ks,0<=m/\(b=true->m<=127):=by
 intro m hm
 obtain⟨k,hk,e⟩:=List.mem_filterMap.mp hm
 have:=h k hk
 cases k with
 |num z=>cases e;exact⟨this.2.2,fun hb=>by rw[←this.2.1] at hb;cases hb⟩
 |wkd z=>cases e;exact⟨this.2.2.1,fun _=>this.2.2.2⟩
 |lst z=>cases e
 |nea z=>cases e
 |wrk=>cases e
 |nth z y=>cases e
 |one z=>cases e
 |nil=>cases e
theorem ayZ{ms:List Int}{n:Nat}(h:∀m∈ms,0<=m/\m<2^n):orM ms<2^n:=by
 have h0:∀m∈ms,0<=m:=fun m hm=>(h m hm).1
 have e:orM ms=mk_ (tb (orM ms)) n:=by
  refine ac5 (aeY h0) (ax7 _ _) fun i=>?_
  rw[ayB]
  by_cases c:i<n
  ·rw[dQ c,Bool.true_and]
  ·rw[dU c,Bool.false_and,adT h0,cX]
   intro m hm
   rw[ae8 (h m hm).2 (by omega)]
   exact a9
 rw[e]
 exact aCM _ _
theorem aAK{b:Bool}{ks:List Mk}(h:∀k∈ks,k.sp=true/\k.wk=b/\k.ok):∀k∈au6 b (orM (plK ks)),k.sp=true/\k.wk=b/\k.ok:=by
 have hp:=aMT h
 have h0:0<=orM (plK ks):=aeY fun m hm=>(hp m hm).1
 intro k hk
 unfold au6 at hk
 split at hk
 ·cases hk
 ·split at hk
  ·rename_i hb
   rw[bI.mp hk,hb]
   have e:(2:Int)^7=128:=by decide
   have:=ayZ (n:=7) (ms:=plK ks) fun m hm=>⟨(hp m hm).1,by have:=(hp m hm).2 hb;omega⟩
   exact⟨rfl,rfl,h0,by omega⟩
  ·rename_i hb
   rw[bI.mp hk]
   exact⟨rfl,by cases b with | true=>exact absurd rfl hb | false=>rfl,h0⟩
noncomputable abbrev Ws(b:Bool):List (List Nat)->List Mk->Prop:=Paired fun w k=>Cl w/\SpT b w k
noncomputable def lo_(b:Bool):Int:=if b=true then 0 else 1
noncomputable def hi_(b:Bool):Int:=if b=true then 7 else 31
theorem aAB(k:Mk)(ks:List Mk):plK (k::ks)=(match k.pl with | some m=>m::plK ks | none=>plK ks)/\otK (k::ks)=(match k.pl with | some _=>otK ks | none=>k::otK ks):=by
 unfold plK otK
 rw[cV,List.filter_cons]
 cases k.pl<;>exact⟨rfl,rfl⟩
theorem aA3(b:Bool)(lo hi:Int)(w:List Nat)(ws:List (List Nat)):plP lo hi (w::ws)=(match aaJ lo hi w with | some m=>m::plP lo hi ws | none=>plP lo hi ws)/\mkP b lo hi (w::ws)=(match aaJ lo hi w with | some _=>mkP b lo hi ws | none=>match rdM b w with | some k=>k::mkP b lo hi ws | none=>mkP b lo hi ws):=by
 unfold plP mkP
 rw[cV,cV]
 cases aaJ lo hi w with
 |some m=>exact⟨rfl,rfl⟩
 |none=>exact⟨rfl,by cases rdM b w<;>rfl⟩
noncomputable def WsI(b:Bool)(ws:List (List Nat))(ks:List Mk):Prop:=mkP b (lo_ b) (hi_ b) ws=otK ks/\plK ks=(plP (lo_ b) (hi_ b) ws).map (fun m=>if b=true then wk7 m else m)/\(∀m∈plP (lo_ b) (hi_ b) ws,0<m/\(b=true->m<=255))/\∀w∈ws,(aaJ (lo_ b) (hi_ b) w).isSome=true∨(rdM b w).isSome=true
theorem axD(b:Bool):∀{ws:List (List Nat)} {ks:List Mk},Ws b ws ks->WsI b ws ks
 |_,_,.nil=>⟨rfl,rfl,fun m hm=>(nomatch hm),fun w hw=>(nomatch hw)⟩
 |w::ws,k::ks,.cons r t=>by
  obtain⟨i1,i2,i3,i4⟩:=axD b t
  have c1:=aAB k ks
  have c2:=aA3 b (lo_ b) (hi_ b) w ws
  have plain:∀(m M:Int),k.pl=some m->aaJ (lo_ b) (hi_ b) w=some M->(m=if b=true then wk7 M else M)->(0<M/\(b=true->M<=255))->WsI b (w::ws) (k::ks):=fun m M e1 e2 e3 e4=>by
   unfold WsI
   rw[e1] at c1
   rw[e2] at c2
   rw[c1.1,c1.2,c2.1,c2.2]
   refine⟨i1,by rw[bC,←e3,←i2],fun z hz=>?_,fun v hv=>?_⟩
   ·rcases aW.mp hz with rfl | hz
    ·exact e4
    ·exact i3 z hz
   ·rcases aW.mp hv with rfl | hv
    ·exact .inl (by rw[e2];rfl)
    ·exact i4 v hv
  have mark:k.pl=none->aaJ (lo_ b) (hi_ b) w=none->rdM b w=some k->WsI b (w::ws) (k::ks):=fun e1 e2 e3=>by
   unfold WsI
   rw[e1] at c1
   rw[e2,e3] at c2
   rw[c1.1,c1.2,c2.1,c2.2]
   refine⟨by rw[i1],i2,i3,fun v hv=>?_⟩
   rcases aW.mp hv with rfl | hv
   ·exact .inr (by rw[e3];rfl)
   ·exact i4 v hv
  cases k with
  |num m=>
   obtain⟨_,hb,hr,h0⟩:=r
   subst hb
   exact plain m m rfl hr rfl ⟨h0,fun z=>nomatch z⟩
  |wkd m=>
   obtain⟨_,hb,M,hr,h0,hm⟩:=r
   subst hb
   exact plain m M rfl hr hm ⟨h0.1,fun _=>h0.2⟩
  |lst z=>exact mark rfl r.2.1 r.2.2
  |nea z=>exact mark rfl r.2.1 r.2.2
  |wrk=>exact mark rfl r.2.1 r.2.2
  |nth z y=>exact mark rfl r.2.1 r.2.2
  |one z=>exact mark rfl r.2.1 r.2.2
  |nil=>exact r.2.elim
theorem az0{b:Bool}{ws:List (List Nat)}{ks:List Mk}{l:List Nat}(h:Ws b ws ks)(hl:spl 44 l=ws):alA b (lo_ b) (hi_ b) l=azS b ks:=by
 obtain⟨i1,i2,i3,_⟩:=axD b h
 have hz:∀m∈plP (lo_ b) (hi_ b) ws,0<=m:=fun m hm=>bN (i3 m hm).1
 unfold alA azS
 rw[hl,i1,i2]
 congr 1
 cases b with
 |false=>
  have e:(plP (lo_ false) (hi_ false) ws).map (fun m=>if false=true then wk7 m else m)=plP (lo_ false) (hi_ false) ws:=List.map_id'' (fun _=>rfl) _
  rw[e]
  rfl
 |true=>
  have e:orM ((plP (lo_ true) (hi_ true) ws).map (fun m=>if true=true then wk7 m else m))=wk7 (orM (plP (lo_ true) (hi_ true) ws)):=(azD hz).symm
  rw[e]
  unfold afR au6
  by_cases c:orM (plP (lo_ true) (hi_ true) ws)=0
  ·rw[if_pos c,c]
   rfl
  ·have c2:¬wk7 (orM (plP (lo_ true) (hi_ true) ws))=0:=fun z=>c (by
    rw[azD hz] at z
    have h0:∀m∈(plP (lo_ true) (hi_ true) ws).map wk7,0<=m:=fun m hm=>by
     obtain⟨y,hy,rfl⟩:=bR.mp hm
     exact (agD (hz y hy) 0).1
    rw[aqX hz]
    intro m hm
    have:=(aqX h0).mp z (wk7 m) (bR.mpr ⟨m,hm,rfl⟩)
    exact absurd this (aCP (i3 m hm).1 ((i3 m hm).2 rfl)).1)
   rw[if_neg c,if_neg c2]
   rfl
theorem none_of{H H':Hp}(s:Same H H'){p:Addr}(h:H' p=none):H p=none:=by
 cases e:H p with
 |none=>rfl
 |some o=>rw[s _ _ e] at h;cases h
theorem adA:∀(ws:List (List Nat)),(∀w∈ws,w.length<=8)->(aaY 44 ws).length<=9*ws.length
 |[],_=>bO _
 |[w],h=>by
  have:=h w (bX ..)
  show w.length<=9
  omega
 |w::v::ws,h=>by
  have ih:=adA (v::ws) fun z hz=>h z (bY _ hz)
  have:=h w (bX ..)
  show (w++44::aaY 44 (v::ws)).length<=_
  rw[aU,bU,bU]
  omega
theorem Ws.cl{b:Bool}:∀{ws:List (List Nat)} {ks:List Mk},Ws b ws ks->∀w∈ws,Cl w
 |_,_,.nil,w,hw=>nomatch hw
 |_,_,.cons r t,w,hw=>by
  rcases aW.mp hw with rfl | hw
  ·exact r.1
  ·exact Ws.cl t w hw
theorem aC7{b:Bool}{ws:List (List Nat)}{ks:List Mk}(h:Ws b ws ks)(hne:ws≠[])(hn:ws.length<=20):spl 44 (aaY 44 ws)=ws/\ItemsOk b (lo_ b) (hi_ b) (aaY 44 ws):=by
 have hs:=ad8 44 ws hne fun w hw=>(h.cl w hw).1.1
 have hl:=adA ws fun w hw=>(h.cl w hw).2.2
 refine⟨hs,by omega,by rw[hs];omega,?_,?_⟩
 ·rw[hs]
  exact (axD b h).2.2.2
 ·rw[hs]
  exact bE (List.length_filterMap_le ..) hn
noncomputable def PrT(H:Hp)(ts:List Addr)(prs:List (Nat×Nat)):Prop:=Paired (fun (t:Addr) (pr:Nat×Nat)=>H t=some (.tup [.int pr.1,.int pr.2])) ts prs
theorem PrT.keep{H H':Hp}{ts:List Addr}{prs:List (Nat×Nat)}(h:PrT H ts prs)(k:Keep H H'):PrT H' ts prs:=Paired.mapP h fun _ _ z=>k.tup z
theorem Paired.at{α β:Type}{F:α->β->Prop}:∀{l:List α} {r:List β} {i:Nat} {a:α},Paired F l r->l[i]? =some a->∃b,r[i]? =some b/\F a b
 |_,_,_,_,.nil,e=>by simp at e
 |_,_,0,_,.cons h _,e=>by
  have:=a8 e
  subst this
  exact⟨_,rfl,h⟩
 |_,_,i+1,_,.cons _ t,e=>Paired.at (i:=i) t e
noncomputable def rt(x:Nat×Nat):List Nat:=if x.1=x.2 then num x.1 else num x.1++45::num x.2
theorem aqA{α:Type}{p q:α->Bool}:∀{l:List α},(∀x∈l,p x=q x)->l.any p=l.any q
 |[],_=>rfl
 |x::r,h=>by rw[cI,cI,h x (bX ..),aqA fun y hy=>h y (bY _ hy)]
theorem asD{b:Bool}{ks:List Mk}(h:∀k∈ks,k.sp=true/\k.wk=b/\k.ok):∀k∈azS b ks,k.sp=true/\k.wk=b/\k.ok:=fun k hk=>by
 rcases bH.mp hk with z | z
 ·exact aAK h k z
 ·exact h k ((List.mem_filter.mp z).1)
end KM
namespace L2
open PySem PySem.Spec PyProof.Rows
section
variable{X:Cx}{f:Addr}{k k':Nat}{ps:List Str}{sp:Sp}{x y e:Expr}{es:List Expr}{t:TA}{tv:TE}{p pos:Pos}
end
section
variable{X:Cx}{C:Addr}{m:Str}{k k':Nat}{ps:List Str}{sp:Sp}{o:Expr}{ta:TE}{apos pos:Pos}
theorem aDY{pl:Sem Bool}(c:Cls X.K C)(D:DfM X.prog X.w X.K X.mg X.base C m k ps sp)(hr:Room k' X.A)(ho:E X o ta)(hk:k<=k':=by decide)
  (ht:eval (.Call (.Attribute o m apos) [] [] pos) X.env=(do
   let ov ←eval o X.env
   standAt apos.atName
   let (f,first) ←holding [ov] (getMethod ov m pl)
   callWith pos f first (backTo pos (starEach [] X.env)) (backToKw pos (keywordEach [] X.env))):=by rfl):E X (.Call (.Attribute o m apos) [] [] pos) (aqZ C m sp [] E0 ta agB):=by
 obtain⟨f,fd,F,hb,hm⟩:=D.ex
 exact⟨ax3 ho.h c hm F (hr.mono hk) hb .nil ajW ht⟩
end
section
variable{X:Cx}{body:List Stmt}{tb:TS}{h:ExceptHandler}{hs:List ExceptHandler}{pos:Pos}
theorem aG2(hb:Ss X.nox body tb):S X (.Try body (h::hs) [] [] pos) tb:=by
 refine⟨fun pins s σ H D I hw=>?_⟩
 refine wpAny_Try_except (dM (hb.h pins s σ H D (I.wish _) hw) (fun f s1 q=>?_) fun e s1 hx=>False.elim hx)
 cases f with
 |next=>exact wpAny_execs_nil q.unwish
 |ret v=>exact q.unwish
 |brk=>exact q.unwish
 |cont=>exact q.unwish
end
section
variable{js:List Nat}{σ:St}{tt:TT}{te:TE}{Q:VK}{H1:Hp}
theorem asP{K K':FG}{a:Addr}{xs:List V}(R:Addr->Nat->List V->Hp->Prop)(hm:∀D i l H l',R D i l H->R D i l (upd H D (.lst l')))(hS:∀D i l H H',Same H H'->R D i l H->R D i l H')(hn:xs.length<=sizeLine)(h0:∀D,H1 D=none->R D 0 [] H1)(hq:SqL K H1 a xs)
  (hs:∀(i:Nat) (x:V) (l:List V) (D:Addr) (H2:Hp) (E:V->Hp->Prop) (F:Hp->Prop),xs[i]? =some x->R D i l H2->H1 D=none->Same H1 H2->H2 D=some (.lst l)->(∀y H5,Same H2 H5->R D (i+1) (l++[y]) H5->E y H5)->(∀H4,Same H2 H4->R D (i+1) l H4->F H4)->
   tt (some (.int i)::some x::aa4 js σ) H2 fun b H4=>if b=true then te (some (.int i)::some x::aa4 js σ) H4 E else F H4)
  (hd:∀(D:Addr) (H2:Hp) (l:List V),R D xs.length l H2->H1 D=none->Same H1 H2->H2 D=some (.lst l)->Q (.ref D) H2):
  atW (Ite K a) 2 js (aw5 K' 2 (alN (abX 0) (alN (abX 1) aCF))) σ tt te Q H1:=by
 intro D hD
 refine⟨fun i m H2=>m=xs.length-i/\i<=xs.length/\Same H1 H2/\∃l,H2 D=some (.lst l)/\l.length<=i/\R D i l H2,⟨xs.length,by simp,bO _,aaB hD _,[],aaA,aQ _,hm _ _ _ _ _ (h0 D hD)⟩,?_⟩
 rintro i m H2 ⟨rfl,hi,s2,l,h2,hll,hR⟩
 by_cases hlt:i<xs.length
 ·refine .inr ⟨⟨xs,xs[i],s2.seq hq,by simp[hlt]⟩,fun v H3 y τ hτ=>?_⟩
  obtain⟨T,rfl,hT,ev⟩:=y
  obtain⟨x,hx,rfl⟩:=ev xs (s2.seq hq)
  have sT:=aaB hT (.tup [.int i,x])
  have s3:=s2.trans sT
  have h3:=sT _ _ h2
  obtain⟨t0,t1,rfl⟩:∃t0 t1,τ=[t0,t1]:=by
   match τ,hτ with
   |[a,b],_=>exact⟨a,b,rfl⟩
  have h:=hs i x l D _ (fun y H5=>∃ys,H5 D=some (.lst ys)/\ys.length<sizeLine/\∃m',m'<xs.length-i/\(m'=xs.length-(i+1)/\i+1<=xs.length/\Same H1 (upd H5 D (.lst (ys++[y])))/\∃l,(upd H5 D (.lst (ys++[y]))) D=some (.lst l)/\l.length<=i+1/\R D (i+1) l (upd H5 D (.lst (ys++[y]))))) (fun H4=>∃m',m'<xs.length-i/\(m'=xs.length-(i+1)/\i+1<=xs.length/\Same H1 H4/\∃l,H4 D=some (.lst l)/\l.length<=i+1/\R D (i+1) l H4)) hx (hS _ _ _ _ _ sT hR) hD s3 h3
   (fun z H5 s5 r5=>by
    refine⟨l,s5 _ _ h3,c9 hll (aY hlt hn),xs.length-(i+1),by omega,rfl,hlt,fun b o hb=>?_,l++[z],aaA,by rw[aU,bM];omega,hm _ _ _ _ _ r5⟩
    rw[aaF (aaI hb hD)]
    exact s5 _ _ (s3 _ _ hb))
   (fun H4 s4 r4=>⟨xs.length-(i+1),by omega,rfl,hlt,s3.trans s4,l,s4 _ _ h3,by omega,r4⟩)
  exact⟨T,[.int i,x],rfl,SqT.of aaA,rfl,.int i,[x],rfl,x,[],rfl,rfl,⟨[some (.int i),some x],rfl,rfl⟩,h⟩
 ·have e:i=xs.length:=by omega
  subst e
  exact .inl ⟨⟨xs,s2.seq hq,rfl⟩,hd D H2 l hR hD s2 h2⟩
end
noncomputable def KD(K:FG)(a:Addr)(kvs:List (Int×V)):Prop:=
 ∃(es:Array DictEntry) (ep:Nat) (vs:List (Key×Value)),K.lookup a=some ⟨.type "dict",none,.dict es ep,#[]⟩/\KV (kvs.map fun x=>((Sum.inl x.1:Key),x.2)) vs/\(vs.map (·.1)).Nodup/\∀(P:Program) (w:World),KeysOf (abC P w) es/\PySem.Pairs (abC P w) es.toList vs
noncomputable def aE5(K:FG)(td ty:TE):TE:=fun σ H Q=>td σ H fun x H1=>ty σ H1 fun y H2=>∃a kvs k v,x=.ref a/\KD K a kvs/\y=.int k/\kvs.lookup k=some v/\Q v H2
theorem aCH{k:Int}{v:V}:∀{kvs:List (Int×V)} {vs:List (Key×Value)},KV (kvs.map fun x=>((Sum.inl x.1:Key),x.2)) vs->kvs.lookup k=some v->∃w',valueAt vs (Sum.inl k:Key)=some w'/\RelV v w'
 |[],_,_,h=>by cases h
 |(k0,v0)::r,_,.cons (b:=(k1,w1)) h t,hl=>by
  obtain⟨e1,e2⟩:=h
  have e1:(Sum.inl k0:Key)=k1:=e1
  subst e1
  rw[c7] at hl
  unfold valueAt
  by_cases c:k=k0
  ·subst c
   rw[show (k==k)=true from beq_self_eq_true k] at hl
   cases hl
   refine⟨w1,?_,e2⟩
   rw[List.find?_cons_of_pos (by simp)]
   rfl
  ·rw[show (k==k0)=false from beq_false_of_ne c] at hl
   obtain⟨w',h1,h2⟩:=aCH t hl
   refine⟨w',?_,h2⟩
   rw[List.find?_cons_of_neg (by simp;exact fun z=>c z.symm)]
   exact h1
section
variable{X:Cx}{o i:Expr}{td ty:TE}{pos:Pos}
theorem eDgK(ho:E X o td)(hi:E X i ty)(hs:aB1 i:=by intro _ _;rfl):E X (.Subscript o i pos) (aE5 X.K td ty):=by
 refine⟨fun pins s σ H Q I h=>?_⟩
 refine auH PySem.F.slot_dict_getitem.lookup hs (thn (ho.h pins s σ H _ I h) fun u s1 ⟨x,H1,I1,rx,q1⟩=>thn (hi.h pins s1 σ H1 _ I1 q1) fun iv s2 ⟨y,H2,I2,ry,a,kvs,k,v,ex,hk,ey,l,q2⟩=>?_)
 subst ex
 subst ey
 obtain rfl:u=Value.ref a:=rx
 obtain⟨es,ep,vs,lk,kv,nd,kp⟩:=hk
 obtain⟨k1,k2⟩:=kp X.prog X.w
 have dd:s2.heap.DictOf (abC X.prog X.w) a vs:=⟨_,es,ep,I2.kIn _ _ lk,⟨rfl,rfl,rfl⟩,rfl,k1,k2,nd⟩
 obtain⟨w',hw,rw'⟩:=aCH kv l
 exact⟨dd.typeIs,wpAny_getItem_of (ap1 (k:=Sum.inl k) ry) dd.mapOf hw ⟨v,H2,I2.tok _,rw',q2⟩⟩
end
end L2
namespace KM
open PySem PySem.Spec PyProof.Rows L2
theorem ayL{ks:List Mk}{l f:Int}(h:Lf l f)(o:∀k∈ks,k.ok):0<=orK ks l f:=aeY fun m hm=>by
 obtain⟨k,hk,rfl⟩:=bR.mp hm
 exact ayJ (o k hk) h
noncomputable def DV(c:Cs)(H:Hp)(v:V):Option (List Mk)->Prop
 |none=>v=.non
 |some ks=>∃p qs,v=.ref p/\H p=some (.lst (qs.map V.ref))/\Ft (MkAt c H) qs ks/\∀k∈ks,k.ok
theorem DV.keep{c:Cs}{H H':Hp}(s:Same H H'){v:V}:∀{ko:Option (List Mk)},DV c H v ko->DV c H' v ko
 |none,h=>h
 |some _,⟨p,qs,e,h1,h2,h3⟩=>⟨p,qs,e,s _ _ h1,h2.keepM s.keep,h3⟩
noncomputable def orO(ko:Option (List Mk))(a l f:Int):Int:=match ko with
 |none=>a
 |some ks=>Builtin.bitOr a (orK ks l f)
noncomputable def abP(kd kw:Option (List Mk))(l f:Int):Int:=if kd.isNone=true/\kw.isNone=true then 2*2^l.toNat-2 else orO kw (orO kd 0 l f) l f
noncomputable def DT(b:Bool)(t:List Nat)(ko:Option (List Mk)):Prop:=(32∉t/\t≠[])/\ItemsOk b (lo_ b) (hi_ b) t/\match ko with
 |none=>t=[42]
 |some ks=>t≠[42]/\(∀k∈ks,k.sp=true/\k.wk=b/\k.ok)/\alA b (lo_ b) (hi_ b) t=azS b ks
noncomputable def gO(b:Bool):Option (List Mk)->Option (List Mk)
 |none=>none
 |some ks=>some (azS b ks)
theorem ahP{c d:Nat}(hcd:c≠d):∀{ws:List (List Nat)},(∀w∈ws,c∉w)->c∉aaY d ws
 |[],_=>bS
 |[w],h=>h w (bX ..)
 |w::v::ws,h=>by
  show c∉w++d::aaY d (v::ws)
  rw[bH,aW,not_or,not_or]
  exact⟨h w (bX ..),hcd,ahP hcd fun z hz=>h z (bY _ hz)⟩
theorem auU:∀{ws:List (List Nat)},ws≠[]->(∀w∈ws,w≠[])->∀d,aaY d ws≠[]
 |[],h,_,_=>absurd rfl h
 |[w],_,h,_=>h w (bX ..)
 |w::v::ws,_,h,d=>fun e=>by
  have e:w++d::aaY d (v::ws)=[]:=e
  rw[List.append_eq_nil_iff] at e
  cases e.2
theorem adK(b:Bool):DT b [42] none:=by
 refine⟨by decide,?_,rfl⟩
 have c:Cl [42]/\SpT b [42] (if b=true then .wkd 127 else .num 4294967294):=by
  cases b with
  |true=>exact⟨by decide,rfl,255,by decide +kernel,by decide,by decide +kernel⟩
  |false=>exact⟨by decide,rfl,by decide +kernel,by decide⟩
 exact (aC7 (.cons c .nil:Ws b [[42]] _) (cM _ _) (by show 1<=20;decide)).2
structure FT(lo hi:Int)(t:List Nat)(m:Int):Prop where
 ok:auI lo hi t
 len:t.length<=300
 is:orM (adO lo hi t)=m
 sp:32∉t
 ne:t≠[]
 nn:0<=m
theorem ad9{lo hi:Int}{ws:List (List Nat)}{nss:List (List Int)}(h:Paired (ad4 lo hi) ws nss)(hne:ws≠[])(hn:ws.length<=20):FT lo hi (aaY 44 ws) (aaN nss.flatten):=by
 have all:∀{ws:List (List Nat)} {nss:List (List Int)},Paired (ad4 lo hi) ws nss->(∀w∈ws,Cl w/\(aaJ lo hi w).isSome=true)/\(ws.map fun w=>(aaJ lo hi w).getD 0)=nss.map aaN:=by
  intro ws nss h
  induction h with
  |nil=>exact⟨fun w hw=>(nomatch hw),rfl⟩
  |cons r t ih=>
   refine⟨fun w hw=>?_,?_⟩
   ·rcases aW.mp hw with z | z
    ·subst z;exact⟨r.2.1,by rw[r.1];rfl⟩
    ·exact ih.1 w z
   ·rw[bC,bC,ih.2,r.1];rfl
 have a:=all h
 have hs:=ad8 44 ws hne fun w hw=>(a.1 w hw).1.1.1
 have hl:=adA ws fun w hw=>(a.1 w hw).1.2.2
 refine⟨⟨by rw[hs];omega,by rw[hs];exact fun w hw=>(a.1 w hw).2⟩,by omega,?_,ahP (by decide) fun x hx=>(a.1 x hx).1.1.2,auU hne (fun x hx=>(a.1 x hx).1.2.1) 44,aeV _⟩
 unfold adO
 rw[hs,a.2]
 have nn:∀m∈nss.map aaN,0<=m:=fun m hm=>by
  obtain⟨z,_,rfl⟩:=bR.mp hm
  exact aeV _
 refine ac5 (aeY nn) (aeV _) fun i=>?_
 rw[adT nn,agU,List.any_map,List.any_flatten]
 exact aqA fun z _=>agU z i
end KM
namespace L2
open PySem PySem.Spec PyProof.Rows
section
open PySem.W Builtin Builtin.ObjectAttr
variable{prog:Program}{w:World}{A:Around}{E:Value->Shared->Prop}{s:Shared}{K:FG}{x C:Addr}{f:Str}{v:Value}{o:Obj}{vs:Array Value}
end
noncomputable def PY(e C:Addr)(d:Option Addr)(h:Heap):Prop:=∃(vs:Array Value) (sl:Array (Option Value)),h.get? e=some ⟨.ref C,d,.fields vs,sl⟩/\vs[1]? =some .none/\vs[2]? =some .none/\4<vs.size
noncomputable def xn(a C:Addr)(d:Option Addr):HO:=.ext (PY a C d)
theorem PY.ok{P:Program}{w:World}{H:Hp}{h:Heap}{a C:Addr}{d:Option Addr}(x:PY a C d h):ObjOk P w H h a (xn a C d):=by
 obtain⟨vs,sl,e,r⟩:=id x
 exact⟨x,⟨_,e⟩,fun h1 h2 ⟨vs,sl,e,r⟩ k=>⟨vs,sl,k _ e,r⟩⟩
section
variable{X:Cx}{pins:List (Addr×Obj)}{σ:St}{H:Hp}{s:Shared}{a C:Addr}{f:Str}
end
section
variable{X:Cx}{o e value:Expr}{ta tv:TE}{f:Str}{pos pos':Pos}
end
section
open PySem.W
variable{prog:Program}{w:World}{A:Around}{E:Value->Shared->Prop}{s:Shared}{K:FG}{C fI:Addr}
end
section
variable{X:Cx}{pins:List (Addr×Obj)}{σ:St}{H:Hp}{s:Shared}
end
section
variable{prog:Program}{w:World}{A:Around}{E:Value->Shared->Prop}{s:Shared}{env:Env}
end
section
variable{X:Cx}{E:XK}{x:Str}{C:Addr}{e:Expr}{es:List Expr}{t:TA}{np cpos pos:Pos}{k k':Nat}{ps:List Str}{sp:Sp}
end
structure RoomQ(k:Nat)(A:Around):Prop where
 dp:A.depth+3*k+5<recursionLimit
 un:A.units+16*k+200<cLine
theorem Room.q{k:Nat}{A:Around}(r:Room k A):RoomQ k A:=⟨r.dp,r.un⟩
section
variable{P:Program}{w:World}{K:FG}{mg:Str->Option Value}{base:Heap}{N ps:List Str}{qual:Str}{scope:Scope}{f:Addr}{cd:Value}{A:Around}{outer:List Env}{s s1:Shared}{H:Hp}{us:List Value}{vs:List V}
end
section
variable{P:Program}{w:World}{K:FG}{mg:Str->Option Value}{base:Heap}{x:Str}{st:Stmt}{ps N:List Str}{k:Nat}{sp:Sp}
end
section
variable{X:Cx}{k k':Nat}{ps:List Str}{sp:Sp}{x:Str}{e:Expr}{es:List Expr}{tA:TA}{p pos:Pos}
end
section
variable{X:Cx}{f:Addr}{k k':Nat}{ps:List Str}{sp:Sp}{x y e:Expr}{es:List Expr}{tA:TA}{tv:TE}{p pos:Pos}{t u:TX}
end
section
variable{M:Model}{A:Around}{E:Value->Shared->Prop}{s:Shared}{f:Obj->Prop}{B:Heap}{env:Env}{outer:List Env}{L e:Addr}{fl:Value}{Q:Unit->Shared->Prop}
end
section
variable{P:Program}{w:World}{K:FG}{mg:Str->Option Value}{base:Heap}{N:List Str}{qual:Str}{scope:Scope}{f:Addr}{cd:Value}{A:Around}{outer:List Env}{s0:Shared}{H0:Hp}{E:XK}
end
section
variable{X:Cx}{elt iter tg:Expr}{xs:List Str}{pos:Pos}{ifs:List Expr}{scope:Scope}{cl:List (Str×Addr)}{N':List Str}{js:List Nat}{tt:TT}{g:TG}{wi:TI}
end
section
variable{P:Program}{w:World}{K:FG}{mg:Str->Option Value}{base:Heap}{N:List Str}{qual:Str}{scope0:Scope}{f:Addr}{cd:Value}{A:Around}{outer:List Env}{s0:Shared}{H0:Hp}{E:XK}
variable{elt iter tg:Expr}{pos:Pos}{ifs:List Expr}{scope:Scope}{js:List Nat}{tt:TT}{te:TX}{g:TG}{wi:TI}
end
section
variable{js:List Nat}{σ:St}{tt:TT}{te:TX}{E:XK}{Q:VK}{H1:Hp}
end
section
variable{P:Program}{w:World}{K:FG}{mg:Str->Option Value}{base:Heap}{m qual:Str}{st:Stmt}{ps N:List Str}{k:Nat}{sp:Sp}{C:Addr}
end
section
variable{X:Cx}{pins:List (Addr×Obj)}{σ:St}{H:Hp}{s:Shared}
end
section
variable{X:Cx}{E:XK}{x:Str}{C a:Addr}{e:Expr}{es:List Expr}{t:TA}{np cpos pos p2:Pos}{j k k':Nat}{ps:List Str}{sp:Sp}
end
theorem RoomQ.units{k:Nat}{A:Around}(r:RoomQ k A):A.units+64<cLine:=by have:=r.un;omega
section
variable{prog:Program}{w:World}{A:Around}{E:Value->Shared->Prop}{s:Shared}
end
section
variable{X:Cx}{elt iter:Expr}{x:Str}{px pos:Pos}{ifs:List Expr}{scope:Scope}{cl:List (Str×Addr)}{N':List Str}{js:List Nat}{tt:TT}{te:TE}
end
section
variable{X:Cx}{elt a1:Expr}{x:Str}{px pos p rpos:Pos}{ifs:List Expr}{scope:Scope}{js:List Nat}{tt:TT}{te:TE}{tA:TA}
end
section
variable{X:Cx}{pins:List (Addr×Obj)}{σ:St}{H:Hp}{s:Shared}
end
section
variable{X:Cx}{body suite:List Stmt}{b0:Stmt}{tb:TB}{th:Addr->TS}{cx n:Str}{np hpos pos:Pos}{CF:Addr}
end
section
variable{X:Cx}{E:XK}{x:Str}{C:Addr}{np cpos pos:Pos}
end
end L2
namespace L2
open PySem PySem.Spec PyProof.Rows PySem.SeqAt
section
variable{X:Cx}
end
section
variable{P:Program}{w:World}{K:FG}{mg:Str->Option Value}{base:Heap}{m qual:Str}{st:Stmt}{ps N:List Str}{k:Nat}{sp:Sp}{C:Addr}
end
section
variable{X:Cx}{x:Str}{C:Addr}{k k':Nat}{ps:List Str}{sp:Sp}{e:Expr}{es:List Expr}{t:TA}{p pos:Pos}{E:XK}
end
end L2
namespace L2
open PySem PySem.Spec PyProof.Rows PySem.SeqAt
section
variable{X:Cx}{m:Str}{C:Addr}{k:Nat}{ps:List Str}{sp:Sp}{o:Expr}{ta:TE}{pos apos:Pos}
end
section
variable{X:Cx}
theorem eD0{x:Str}{k k':Nat}{sp:Sp}{p pos:Pos}(D:Df X.prog X.w X.K X.mg X.base x k [] sp)(hr:Room k' X.A)(hk:k<=k':=by decide)(hg:Gl X x:=by rfl)
  (hdb:(x==("__debug__":Str))=false:=by decide):E X (.Call (.Name x p) [] [] pos) (anL sp [] E0 agB):=by
 obtain⟨f,fd,F,hb,hm,kp⟩:=D.ex
 exact⟨azQ F (hr.mono hk) hg hm kp hb .nil ajW hdb⟩
end
theorem len0{us:List Value}(h:us.length=0):us=[]:=List.eq_nil_of_length_eq_zero h
theorem aBM{K:FG}{H H':Hp}{v:V}{t:Value}(s:Same H H')(h:TyOf K H v t):TyOf K H' v t:=by
 cases h with
 |non=>exact .non
 |bl x=>exact .bl x
 |int i=>exact .int i
 |str x=>exact .str x
 |flt x=>exact .flt x
 |lst e=>exact .lst (s _ _ e)
 |frz e=>exact .frz (s _ _ e)
 |tup e=>exact .tup (s _ _ e)
 |dK e=>exact .dK (s _ _ e)
 |dT e=>exact .dT (s _ _ e)
 |ins e c a n k m=>exact .ins (s _ _ e) c a n k m
noncomputable def IsB(K:FG)(C:Addr)(H:Hp)(v:V)(b:Bool):Prop:=∃t,TyOf K H v t/\PySem.W.kitOne K t (.ref C)=some b
theorem IsB.keep{K:FG}{C:Addr}{H H':Hp}{v:V}{b:Bool}(h:IsB K C H v b)(s:Same H H'):IsB K C H' v b:=by
 obtain⟨t,h1,h2⟩:=h
 exact⟨t,aBM s h1,h2⟩
noncomputable def tCut(t u:TS):TS:=fun D σ H=>∃I:St->Hp->Prop,t {D with nx:=I} σ H/\∀σ' H',I σ' H'->u D σ' H'
theorem ssK{X:Cx}{st:Stmt}{rest:List Stmt}{t u:TS}(h1:S X st t)(h2:Ss X rest u):Ss X (st::rest) (tCut t u):=by
 refine⟨fun pins s σ H D I h=>?_⟩
 obtain⟨J,h,hJ⟩:=h
 refine wpAny_execs_cons (thn (h1.h pins s σ H {D with nx:=J} I h) fun f s1 q=>?_)
 cases f with
 |next=>
  obtain⟨σ',H',I',q⟩:=q
  exact h2.h pins s1 σ' H' D I' (hJ _ _ q)
 |ret v=>exact q
 |brk=>exact q
 |cont=>exact q
theorem Digs.five{ds:List Int}{a b c d e:Int}(h:Digs ds [a,b,c,d,e]):∃x0 x1 x2 x3 x4:Int,ds=[x0,x1,x2,x3,x4]/\(0<=x0/\x0<a)/\(0<=x1/\x1<b)/\(0<=x2/\x2<c)/\(0<=x3/\x3<d)/\0<=x4/\x4<e:=by
 match ds,h with
 |[x0,x1,x2,x3,x4],.cons h0 (.cons h1 (.cons h2 (.cons h3 (.cons h4 .nil))))=>exact⟨x0,x1,x2,x3,x4,rfl,h0,h1,h2,h3,h4⟩
theorem aAV{X:Cx}{x y:Str}{a b:Expr}{ta:TA}{px py pt pos:Pos}{kt k2 pt2}(i j:Nat)(ha:As X [a,b] ta)(hN:X.N.Nodup)(hc:X.calm=true:=by rfl)(hi:X.N[i]? =some x:=by rfl)(hj:X.N[j]? =some y:=by rfl)(hij:i≠j:=by decide)
  (hx:X.env.scope.names.lookup x=some .local:=by rfl) (hy:X.env.scope.names.lookup y=some .local:=by rfl)
  (hw:swappedStores [.Tuple [.Name x px,.Name y py] kt pt] (.Tuple [a,b] k2 pt2) X.env=pure (some [x,y]):=by rfl)
  (hs:swapsWithSole [.Tuple [.Name x px,.Name y py] kt pt] (.Tuple [a,b] k2 pt2) pos.line X.env=pure false:=by rfl):
  S X (.Assign [.Tuple [.Name x px,.Name y py] kt pt] (.Tuple [a,b] k2 pt2) pos) (aLN i j ta):=⟨aE9 hc hN hi hj hij hx hy ha.h hw hs⟩
section
variable{X:Cx}{es:List Expr}{kk:Nat}{tpos:Pos}
end
section
variable{js:List Nat}{σ:St}{tt:TT}{te:TE}{Q:VK}{H1:Hp}
end
theorem eFlc{X:Cx}{K:FG}{e:Expr}{f:Str}{ta:TE}{pos:Pos}(he:E X e ta)(hK:X.K=K:=by rfl)(hb:attributeBase e f X.env (eval e X.env)=eval e X.env:=by rfl):E X (.Attribute e f pos) (aFC K ta f):=hK▸eFl he hb
section
variable{js:List Nat}{σ:St}{tt:TT}{te:TE}{Q:VK}{H1:Hp}
end
section
variable{prog:Program}{w:World}{A:Around}{E:Value->Shared->Prop}{s:Shared}
end
section
variable{X:Cx}{es:List Expr}{kk:Nat}{tpos:Pos}
end
theorem aPD{X:Cx}(hu:X.A.units+64<cLine):Op2 X (compareOp .NotEq) (fun x y H Q=>∃(a b:Addr) (vs:List V),x=.ref a/\y=.ref b/\SqL X.K H a vs/\SqL X.K H b []/\Q (.bl (decide (vs≠[]))) H):=by
 refine⟨fun pins s σ H x y v u Q I rx ry h=>?_⟩
 obtain⟨a,b,vs,rfl,rfl,ha,hb,q⟩:=h
 cases rx
 cases ry
 obtain⟨its,rv,pl,_⟩:=I.list ha
 obtain⟨its',rv',pl',_⟩:=I.list hb
 cases rv'
 have e:=rv.length
 cases vs with
 |nil=>
  cases rv
  refine SeqAt.RcNeAt.lists (e:=fun _=>true) pl.isList pl'.isList rfl (by omega) (fun i h1 h2=>SeqAt.EqAt.same _) _ _ _ _ ?_
  exact⟨.bl false,H,I,by show Value.bool _=Value.bool false;congr 1,q⟩
 |cons v0 vs=>
  refine SeqAt.RcNeAt.lists_lengths pl.isList pl'.isList (by rw[bB,←e];rfl) (by omega) _ _ _ _ ?_
  exact⟨.bl true,H,I,rfl,q⟩
end L2
namespace L2
open PySem PySem.Spec PyProof.Rows PySem.SeqAt
noncomputable abbrev Tri:=Int×Int×Int
noncomputable def aA9(p:Tri):PyData:=.tuple [.int p.1,.int p.2.1,.int p.2.2]
noncomputable def aEV(l:List Tri):PyData:=.list (l.map aA9)
section
variable{X:Cx}
theorem aCY:∀ns ms:List Tri,PySem.Spec.sameAll (ns.map aA9) (ms.map aA9)=decide (ns=ms)
 |[],[]=>by simp[PySem.Spec.sameAll]
 |[],_::_=>by simp[PySem.Spec.sameAll]
 |_::_,[]=>by simp[PySem.Spec.sameAll]
 |(a,b,c)::r,(x,y,z)::q=>by
  simp only[bC,aA9,PySem.Spec.sameAll,PySem.Spec.same,aCY r q]
  by_cases h1:a=x<;>by_cases h2:b=y<;>by_cases h3:c=z<;>simp[h1,h2,h3]
theorem abB:∀ns ms:List (List Tri),PySem.Spec.sameAll (ns.map aEV) (ms.map aEV)=decide (ns=ms)
 |[],[]=>by simp[PySem.Spec.sameAll]
 |[],_::_=>by simp[PySem.Spec.sameAll]
 |_::_,[]=>by simp[PySem.Spec.sameAll]
 |a::r,b::q=>by
  simp only[bC,aEV,PySem.Spec.sameAll,PySem.Spec.same,aCY a b,abB r q]
  by_cases h1:a=b<;>simp[h1]
end
section
variable{X:Cx}
end
noncomputable def SameBut(S:Addr->Prop)(H H':Hp):Prop:=∀b o,H b=some o->¬S b->H' b=some o
theorem SameBut.trans{S:Addr->Prop}{H H1 H2:Hp}(a:SameBut S H H1)(b:SameBut S H1 H2):SameBut S H H2:=fun c o h n=>b c o (a c o h n) n
theorem fsc{N P:List Str}{sc:Scope}(h1:sc.kind=.function:=by rfl)(h2:sc.isCoroutine=false:=by rfl)(h3:sc.isGenerator=false:=by rfl)(h4:N.Nodup:=by decide +kernel)(h5:N.take P.length=P:=by rfl)(h6:∀x∈P,sc.names.lookup x=some .local∨sc.names.lookup x=some .cell:=by decide +kernel)(h7:∀y∈sc.names,y.2≠ .free:=by decide +kernel):FnScope N P sc:=⟨h1,h2,h3,h4,h5,h6,h7⟩
theorem zL(n:Nat)(h:n<=100:=by decide):n<=sizeLine:=by rw[dN];omega
section
variable{X:Cx}
noncomputable def aQF(i j:Int):Prop:=0<=j/\j<=1000000/\i.natAbs<2^1440
theorem aBK:OpR X (binaryOp .LShift) (rI aQF fun i j=>.int (i*2^j.toNat)):=opI fun i j _ _ _ _ _ hc q=>lshift_int hc.1 (by
 have hb:Builtin.Int.intBits i<=1440:=intBits_le hc.2.2
 have:=hc.2.1
 omega) q
theorem aIC:Op2 X (binaryOp .LShift) (rI aQF fun i j=>.int (i*2^j.toNat)):=⟨aBK⟩
end
end L2
namespace L2
open PySem PySem.Spec PyProof.Rows PySem.W
noncomputable def ab9(a:Addr)(o:Obj):HO:=.ext fun h=>h.get? a=some o
noncomputable def apU(c:Addr)(qual:Str):HO:=.ext fun h=>h.CodeRec (.ref c) qual
noncomputable def era(H:Hp)(a:Addr):Hp:=fun b=>if b=a then none else H b
theorem acP{H:Hp}{a:Addr}:era H a a=none:=if_pos rfl
theorem abN{H:Hp}{a b:Addr}(h:b≠a):era H a b=H b:=if_neg h
theorem ayP{H:Hp}{a b:Addr}{o:HO}(h:era H a b=some o):b≠a/\H b=some o:=by
 by_cases e:b=a
 ·rw[e,acP] at h;cases h
 ·rw[abN e] at h;exact⟨e,h⟩
section
variable{P:Program}{w:World}{H:Hp}{h:Heap}{a:Addr}{o:HO}
theorem HOk.era_(x:HOk P w H h)(no:∀z,H a≠some (.own z))(nt:∀xs,H a≠some (.tup xs)):HOk P w (era H a) h:=fun b u e=>by
 obtain⟨hb,e⟩:=ayP e
 refine (x b u e).stay (fun _ _ _ q=>q) (fun c q=>?_) fun c xs q=>?_
 ·by_cases z:c=a
  ·exact absurd (z▸q) (no b)
  ·rw[abN z];exact q
 ·by_cases z:c=a
  ·exact absurd (z▸q) (nt xs)
  ·rw[abN z];exact q
theorem HOk.track(x:HOk P w H h)(hn:H a=none)(new:ObjOk P w (upd H a o) h a o):HOk P w (upd H a o) h:=fun b u e=>by
 by_cases hb:b=a
 ·subst hb;rw[aaA] at e;cases e;exact new
 ·rw[aaF hb] at e
  exact (x b u e).stay (fun _ _ _ q=>q) (fun c q=>by rw[aaF (aaI q hn)];exact q) fun c xs q=>by rw[aaF (aaI q hn)];exact q
theorem aqJ{ob:Obj}(e:h.get? a=some ob):ObjOk P w H h a (ab9 a ob):=⟨e,⟨ob,e⟩,fun h1 h2 e1 k=>k _ e1⟩
theorem ak8{ob:Obj}(x:HOk P w H h)(e:H a=some (ab9 a ob)):h.get? a=some ob:=(x a _ e).1
theorem aDH{q:Str}(x:HOk P w H h)(e:H a=some (apU a q)):h.CodeRec (.ref a) q:=(x a _ e).1
end
noncomputable def acZ(P:Program)(w:World)(K:Frag)(mg:Str->Option Value)(base:Heap)(N:List Str)(qual:Str)(scope:Scope)(L f c':Addr)(cl:List (Str×Addr))(A:Around)(outer:List Env)(s:Shared)(H:Hp):Cx where
 prog:=P
 w:=w
 K:=K
 mg:=mg
 base:=base
 A:=A.deeper (envX qual scope L f (.ref c') cl)
 N:=N
 s₀:=s
 H₀:=H
 env:=envX qual scope L f (.ref c') cl
 outer:=outer
 stack:=envX qual scope L f (.ref c') cl::outer
 ex:=[]
 fn:=fun _=>false
 calm:=true
 pn:=[]
 xe:=fun _ _=>False
structure LamScope(x y:Str)(scope:Scope):Prop where
 kind:scope.kind=.function
 co:scope.isCoroutine=false
 gen:scope.isGenerator=false
 nocell:∀z∈scope.names,z.2≠ .cell
 par:scope.names.lookup x=some .local
 fre:scope.names.lookup y=some .free
 only:∀z∈scope.names,z.2=.free->z.1=y
 ne:x≠y
theorem avZ{P:Program}{w:World}{K:Frag}{mg:Str->Option Value}{base:Heap}{x y:Str}{qual:Str}{scope:Scope}{f c' a:Addr}{A:Around}{outer:List Env}{s s1:Shared}{H:Hp}{u u0:Value}{v v0:V}{o0:Obj}{h1:Heap}{tk:Tok}
  (S:LamScope x y scope) (hd:A.handled=none) (e0:Env0 P w K mg base A outer s H) (ha:H a=some (ab9 a o0)) (ho:o0.data=.cell (some u0)) (r0:RelV v0 u0) (r:RelV v u)
  (hns:h1.Ns s.heap.objs.size (fun z=>[(x,u)].reverse.lookup z)) (hk:∀b o,s.heap.get? b=some o->h1.get? b=some o) (hs:s1={s with heap:=h1,toks:=tk}):
  Inv (acZ P w K mg base [x,y] qual scope s.heap.objs.size f c' [(y,a)] A outer s (era H a)) [] [some v,some v0] (era H a) s1:=by
 subst hs
 have hao:=ak8 e0.hok ha
 have noA:∀b:Addr,b∉(acZ P w K mg base [x,y] qual scope s.heap.objs.size f c' [(y,a)] A outer s (era H a)).ex:=fun b z=>absurd (show b∈([]:List Addr) from z) (by simp)
 have one:∀z c,([(y,a)]:List (Str×Addr)).lookup z=some c->z=y/\c=a:=fun z c e=>by
  have m:=PySem.mem_of_lookup e
  have:=bI.mp m
  exact⟨congrArg Prod.fst this,congrArg Prod.snd this⟩
 have ly:([(y,a)]:List (Str×Addr)).lookup y=some a:=by simp
 have fr:∀b,H b=none->era H a b=none:=fun b e=>by
  by_cases z:b=a
  ·rw[z];exact acP
  ·rw[abN z];exact e
 have hok':HOk P w (era H a) s.heap:=e0.hok.era_ (fun z e=>by rw[ha] at e;cases e) (fun xs e=>by rw[ha] at e;cases e)
 have cell:h1.IsCell a (some u0):=⟨o0,hk _ _ hao,ho⟩
 refine⟨⟨e0.mod,S.kind,rfl,rfl,aQ _,fun z1 z2 c q1 q2=>(one z1 c q1).1.trans (one z2 c q2).1.symm,fun z hz=>?_,(fun z c q _=>nomatch q),fun _=>hd,Around.frames_deeper e0.frames,.inr ⟨rfl,rfl⟩,fun b z=>absurd z (noA b),fun b o e=>⟨(e0.bs b o e).1,fr b (e0.bs b o e).2⟩,e0.bsz,fun b _ _=>noA b,fun b z=>absurd z (noA b),e0.funs,fun b hb=>fr b (e0.frf b hb)⟩,
  rfl,e0.bare,Un.kept hk,⟨_,hns,fun i z v' q1 q2 q3=>?_⟩,fun z c q=>?_,fr _ (e0.hok.fresh (aQ _)),fun z c q=>?_,fun p hp=>absurd (show p∈([]:List (Addr×Obj)) from hp) (by simp),hok'.kept hk,rfl⟩
 ·have hz:scope.names.lookup z=some .cell∨scope.names.lookup z=some .free:=hz
  rcases hz with hz | hz
  ·exact absurd rfl (S.nocell _ (PySem.mem_of_lookup hz))
  ·have:=S.only _ (PySem.mem_of_lookup hz) rfl
   exact⟨a,by show ([(y,a)]:List (Str×Addr)).lookup z=_;rw[show z=y from this];exact ly⟩
 ·match i,q1,q2 with
  |0,q1,q2=>
   cases q1
   cases q2
   exact⟨u,r,.inl ⟨S.par,by show ([(x,u)]:List (Str×Value)).reverse.lookup x=some u;simp⟩⟩
  |1,q1,q2=>
   cases q1
   cases q2
   exact⟨u0,r0,.inr ⟨.inr S.fre,a,ly,cell⟩⟩
  |i+2,q1,_=>exact nomatch q1
 ·obtain⟨_,rfl⟩:=one z c q
  exact⟨_,cell⟩
 ·obtain⟨_,rfl⟩:=one z c q
  exact acP
theorem aF8{P:Program}{w:World}{K:Frag}{mg:Str->Option Value}{base:Heap}{k:Nat}{x y:Str}{name qual:Str}{params:Arguments}{body:Expr}{scope:Scope}{pm ctv:Value}{f c' a:Addr}{A:Around}{outer:List Env}{s:Shared}{H:Hp}{args:Args}{u u0:Value}{v v0:V}{o0:Obj}{Q:VK}{E:XK}{t:TE}
  (S:LamScope x y scope) (hr:Room (k+1) A) (e0:Env0 P w K mg base A outer s H) (hb:BindsTo s (kla_fn name qual params body scope [(y,a)] pm (.ref c') ctv) args [(x,u)]) (r:RelV v u)
  (hf:H f=some (ab9 f (kla_obj name qual params body scope [(y,a)] pm c' ctv))) (hc:H c'=some (apU c' qual)) (ha:H a=some (ab9 a o0)) (ho:o0.data=.cell (some u0)) (r0:RelV v0 u0)
  (hbody:L2.E (acZ P w K mg base [x,y] qual scope s.heap.objs.size f c' [(y,a)] A outer s (era H a)) body t)
  (h:t [some v,some v0] (era H a) fun v' H'=>H' a=none->Q v' (upd H' a (ab9 a o0))):
  codeAny (model P w) A (.call (.ref f) args) (CR CX0 outer P w H s Q E) s:=by
 have lim:s.heap.NoLimit:=e0.mod.nolimit.keeps fun b o e=>(e0.bs b o e).1
 refine kla_callFunE (by have:=hr.dp;omega) (ak8 e0.hok hf) rfl S.co S.gen rfl (aDH e0.hok hc) (hb _ _ _ _ ?_)
 refine wpAny_newFunctionEnv S.nocell (fun z hz=>by rw[bI.mp hz];exact S.par) (fun h₁ hns hsb=>⟨lim.fresh _ hsb,?_⟩) S.kind
 show codeAny _ _ (.expr body (envX qual scope s.heap.objs.size f (.ref c') [(y,a)])) _ _
 have hk₁:∀b o,s.heap.get? b=some o->h₁.get? b=some o:=fun b o e=>hsb.extBut b o (aX (aS e)) (aZ _ e)
 refine kla_codeExpr ?_
 have I:=avZ (f:=f) (c':=c') (qual:=qual) (tk:=s.toks+([(x,u)]:List (Str×Value)).length) S hr.hd e0 ha ho r0 r hns hk₁ rfl
 refine dM (hbody.h [] _ _ _ _ I h) (fun v' s' hq=>?_) fun e s' hq=>hq.elim
 obtain⟨z,H',J,rz,q⟩:=hq
 have hao:=ak8 e0.hok ha
 -- the cell is as it was
 have ca:s'.heap.get? a=some o0:=J.base.keep a o0 hao acP (fun hb=>by
  have:=e0.frf a hb
  rw[ha] at this
  cases this) (by simp[acZ])
 refine⟨z,upd H' a (ab9 a o0),J.os,J.bare,⟨fun b o e n hb hx=>?_,fun b o e n hb hx=>?_,fun b o e n hx=>?_,fun b o e hx=>J.base.there b o e hx,fun b xs e=>?_,fun b o u e=>?_,fun b ps e=>?_⟩,J.hok.track (J.base.free a o0 hao acP (by simp[acZ])) (aqJ ca),rz,q (J.base.free a o0 hao acP (by simp[acZ]))⟩
 all_goals have na:b≠a:=fun z=>by (first | (rw[z,ha] at n;cases n) | (rw[z,ha] at e;cases e))
 ·exact J.base.keep b o e (by rw[show (acZ P w K mg base [x,y] qual scope s.heap.objs.size f c' [(y,a)] A outer s (era H a)).H₀=era H a from rfl,abN na];exact n) hb hx
 ·exact J.base.slot b o e (by rw[show (acZ P w K mg base [x,y] qual scope s.heap.objs.size f c' [(y,a)] A outer s (era H a)).H₀=era H a from rfl,abN na];exact n) hb hx
 ·rw[aaF na]
  exact J.base.free b o e (by rw[show (acZ P w K mg base [x,y] qual scope s.heap.objs.size f c' [(y,a)] A outer s (era H a)).H₀=era H a from rfl,abN na];exact n) hx
 ·rw[aaF na]
  exact J.base.tups b xs (by rw[show (acZ P w K mg base [x,y] qual scope s.heap.objs.size f c' [(y,a)] A outer s (era H a)).H₀=era H a from rfl,abN na];exact e)
 ·rw[aaF na]
  exact J.base.frzs b o u (by rw[show (acZ P w K mg base [x,y] qual scope s.heap.objs.size f c' [(y,a)] A outer s (era H a)).H₀=era H a from rfl,abN na];exact e)
 ·obtain⟨more,z⟩:=J.base.tbls b ps (by rw[show (acZ P w K mg base [x,y] qual scope s.heap.objs.size f c' [(y,a)] A outer s (era H a)).H₀=era H a from rfl,abN na];exact e)
  exact⟨more,by rw[aaF na];exact z⟩
end L2
namespace L2
open PySem PySem.Spec PyProof.Rows PySem.W
structure FnC(K:Frag)(mg:Str->Option Value)(x:Str)(st:Stmt)(ps:List Str)(c:Addr):Prop where
 ex:∃(f:Addr) (oc:Value) (od:Option Addr) (kV doc pm:Value) (an:Option Addr) (ct:Value) (osl:Array (Option Value)),
  K.lookup f=some ⟨oc,od,.func (fnOf x x (aa7 st) (aaU st) (aaC st) .none kV doc pm an (.ref c) ct),osl⟩/\codeIn K (.ref c) x=true/\keepIn K (.ref f)=true/\Binds K (fnOf x x (aa7 st) (aaU st) (aaC st) .none kV doc pm an (.ref c) ct) ps []/\mg x=some (.ref f)
section
variable{P:Program}{w:World}{K:Frag}{mg:Str->Option Value}{base:Heap}{x:Str}{st:Stmt}{ps N:List Str}{k:Nat}{sp:Sp}{c:Addr}
theorem FnC.dfs(F:FnC K mg x st ps c)(S':FnScope N ps (aaC st))(len:∀vs H Q E,sp vs H Q E->vs.length=ps.length)
  (hbody:∀(f:Addr) (A:Around) (outer:List Env) (s:Shared) (H:Hp) (vs:List V) (Q:VK) (E:XK),Room k (A.deeper (envOfC x (aaC st) s.heap.objs.size f (.ref c)))->sp vs H Q E->
   ∃t,Ss (aiX CX0 P w K mg base N x (aaC st) f (.ref c) A outer s H E).nox (aaU st) t/\t {nx:=fun _ H'=>Q .non H',rt:=Q} (start N vs) H):Df P w K mg base x (k+1) ps sp:=by
 obtain⟨f,oc,od,kV,doc,pm,an,ct,osl,lk,hcd,kp,hb,hm⟩:=F.ex
 refine⟨⟨f,_,ax9 lk hcd S' len fun A outer s H vs Q E hr hsp=>?_,hb,hm,kp⟩⟩
 obtain⟨t,h,q⟩:=hbody f A outer s H vs Q E hr hsp
 exact⟨t,h.h.nox,q⟩
theorem aDQ{h:Heap}{f:Addr}{oc:Value}{od an:Option Addr}{osl:Array (Option Value)}{kV doc pm ct:Value}(X:K.In h)(G:h.Ns mainGlobals mg)
  (a:nsIn K mainGlobals x=some (some (.ref f))) (l:K.lookup f=some ⟨oc,od,.func (fnOf x x (aa7 st) (aaU st) (aaC st) .none kV doc pm an (.ref c) ct),osl⟩)
  (cd:codeIn K (.ref c) x=true) (kp:keepIn K (.ref f)=true)
  (hb:∀(kV doc pm:Value) (an:Option Addr) (cdv ct:Value) (us:List Value),us.length=ps.length->bindArgs (fnOf x x (aa7 st) (aaU st) (aaC st) .none kV doc pm an cdv ct) ⟨us,[]⟩=pure (ps.zip us)):FnC K mg x st ps c:=
 ⟨⟨f,oc,od,kV,doc,pm,an,ct,osl,l,cd,kp,(apT (st:=st) l cd kp).binds (ps:=ps) hb,mg_of X G a⟩⟩
end
structure Host(K:Frag)(mg:Str->Option Value)(c Pt bm:Addr):Prop where
 code:∀h:Heap,K.In h->CodeHd h c Pt
 blt:mg "__builtins__"=some (.ref bm)/\bm≠builtinsNs
noncomputable def awW(H:Hp)(bm:Addr):Prop:=∃ob u,H bm=some (.frz ob u)/\ob.cls=.type "module"/\ob.dict=some builtinsNs/\ob.data=.plain
noncomputable def acC(X:Cx)(y:Str):Addr:=(X.env.cells.lookup y).getD 0
noncomputable def av0(qual:Str)(params:Arguments)(body:Expr)(scope:Scope)(y:Str)(a:Addr)(pm:Value)(c':Addr)(ctv:Value):Obj:=kla_obj "<lambda>" qual params body scope [(y,a)] pm c' ctv
noncomputable def aGO(Pt bm:Addr)(lpos:Pos)(qual:Str)(params:Arguments)(body:Expr)(scope:Scope)(y:Str)(a:Addr)(pm:Value):TE:=fun _ H Q=>awW H bm/\∃ps:Array Value,H Pt=some (.tbl ps)/\TriplesOk ps.toList/\
 ((codeAmong lpos ps.toList=none/\∀f c' ctv,H f=none->H c'=none->c'≠f->Q (.ref f) (upd (upd (upd H Pt (.tbl (ps++ #[rawInt lpos.line,rawInt lpos.col,.ref c']))) c' (apU c' qual)) f (ab9 f (av0 qual params body scope y a pm c' ctv))))∨
 (∃c0,codeAmong lpos ps.toList=some (.ref c0)/\H c0=some (apU c0 qual)/\∀f ctv,H f=none->Q (.ref f) (upd H f (ab9 f (av0 qual params body scope y a pm c0 ctv)))))
section
variable{X:Cx}
theorem eLam{params:Arguments}{body:Expr}{scope:Scope}{lpos:Pos}{y:Str}{c Pt bm:Addr}(hh:Host X.K X.mg c Pt bm)(hcode:X.env.code=.ref c:=by rfl)(hcl:closureFor scope X.env=pure [(y,acC X y)]:=by rfl)(hdef:defaultsOf params X.env=([],[]):=by rfl):
  E X (.Lambda params body scope lpos) (aGO Pt bm lpos (X.env.qual++"<lambda>") params body scope y (acC X y) ((X.mg "__name__").getD .none)):=by
 refine⟨fun pins s σ H Q I h=>?_⟩
 obtain⟨⟨ob,u,hbm,b4,b5,b6⟩,ps,hP,ht,h⟩:=h
 have hPh:s.heap.get? Pt=some (tabObj ps):=I.hok Pt _ hP
 have hg:s.heap.Ns mainGlobals X.mg:=I.mod.glob.keeps I.bk
 have bn:∀b o,X.base.get? b=some o->b≠Pt:=fun b o e z=>by
  have:=(I.bs b o e).2
  rw[z,hP] at this
  cases this
 have hgP:mainGlobals≠Pt:=by
  obtain⟨o,es,ep,e,_⟩:=I.mod.glob
  exact bn _ _ e
 have hb:s.heap.BuiltinsAt X.mg Pt:=by
  obtain⟨b1,b2⟩:=hh.blt
  refine⟨bm,ob,b1,b2,fun z=>?_,fun z=>?_,(I.hok bm _ hbm).1,b4,b5,b6⟩
  ·obtain⟨o,es,ep,e2,_⟩:=I.mod.glob
   have:=(I.bs _ _ e2).2
   rw[←z,hbm] at this
   cases this
  ·rw[z,hP] at hbm
   cases hbm
 have nl:X.env.locals≠Pt:=fun z=>by
  have:=I.free
  rw[z,hP] at this
  cases this
 refine kla_eval hdef ?_
 rcases h with ⟨hnf,h⟩ | ⟨c0,hf,hc0,h⟩
 ·refine kla_makeFunction (mg:=X.mg) hcl I.ok.glob hg hcode (hh.code _ I.kIn) hPh ht hnf hgP hb fun c' ctv h' tk hx hge hlt hrec htb=>?_
  have szle:s.heap.objs.size<=h'.objs.size:=Nat.le_of_lt (c9 hge hlt)
  have ltc:∀b o,s.heap.get? b=some o->b≠c'/\b≠h'.objs.size:=fun b o e=>⟨aX (aY (aS e) hge),aX (aY (aS e) szle)⟩
  have hc'n:H c'=none:=I.hok.fresh hge
  have hfn:H h'.objs.size=none:=I.hok.fresh szle
  have cf:c'≠h'.objs.size:=aX hlt
  have trk:∀b o,H b=some o->b≠c'/\b≠h'.objs.size:=fun b o e=>⟨aaI e hc'n,aaI e hfn⟩
  let fo:=av0 (X.env.qual++"<lambda>") params body scope y (acC X y) ((X.mg "__name__").getD .none) c' ctv
  let H1:=upd (upd (upd H Pt (.tbl (ps++ #[rawInt lpos.line,rawInt lpos.col,.ref c']))) c' (apU c' (X.env.qual++"<lambda>"))) h'.objs.size (ab9 h'.objs.size fo)
  have H1o:∀b,b≠Pt->b≠c'->b≠h'.objs.size->H1 b=H b:=fun b n1 n2 n3=>by show upd (upd (upd H Pt _) c' _) h'.objs.size _ b=_;rw[aaF n3,aaF n2,aaF n1]
  have kp:∀b o,b≠Pt->s.heap.get? b=some o->(h'.push fo).get? b=some o:=fun b o n e=>aZ _ (hx b o n e)
  have PtN:Pt≠c'/\Pt≠h'.objs.size:=trk _ _ hP
  have H1P:H1 Pt=some (.tbl (ps++ #[rawInt lpos.line,rawInt lpos.col,.ref c'])):=by show upd (upd (upd H Pt _) c' _) h'.objs.size _ Pt=_;rw[aaF PtN.2,aaF PtN.1,aaA]
  have H1c:H1 c'=some (apU c' (X.env.qual++"<lambda>")):=by show upd (upd (upd H Pt _) c' _) h'.objs.size _ c'=_;rw[aaF cf,aaA]
  have H1f:H1 h'.objs.size=some (ab9 h'.objs.size fo):=aaA
  have hok:HOk X.prog X.w H1 (h'.push fo):=fun b u e=>by
   by_cases n3:b=h'.objs.size
   ·subst n3
    rw[H1f] at e
    cases e
    exact aqJ (bK _ rfl)
   by_cases n2:b=c'
   ·subst n2
    rw[H1c] at e
    cases e
    obtain⟨c2,oc,vs,t,e2,hoc,hd,hv⟩:=hrec
    cases e2
    exact⟨⟨b,oc,vs,t,rfl,aZ _ hoc,hd,hv⟩,⟨oc,aZ _ hoc⟩,fun h1 h2 ⟨c2,oc,vs,t,e2,hoc,hd,hv⟩ k=>by cases e2;exact⟨b,oc,vs,t,rfl,k _ hoc,hd,hv⟩⟩
   by_cases n1:b=Pt
   ·subst n1
    rw[H1P] at e
    cases e
    exact aZ _ htb
   rw[H1o b n1 n2 n3] at e
   refine (I.hok b u e).stay (fun d v z q=>kp d v (fun zz=>?_) q) (fun d q=>?_) fun d xs q=>?_
   ·rcases z with z | z
    ·exact n1 (z.symm.trans zz)
    ·rw[zz,hP] at z
     cases z
   ·have:=trk _ _ q
    rw[H1o d (fun zz=>by rw[zz,hP] at q;cases q) this.1 this.2]
    exact q
   ·have:=trk _ _ q
    rw[H1o d (fun zz=>by rw[zz,hP] at q;cases q) this.1 this.2]
    exact q
  refine⟨.ref h'.objs.size,H1,?_,rfl,h h'.objs.size c' ctv hfn hc'n cf⟩
  refine I.step (g':=s.gens) (d':=s.drawn) (t':=tk) (ch:=[]) (fun _ z=>nomatch z) (fun b o _ _ _ e n=>kp b o (fun z=>by rw[z,hP] at n;cases n) e) (fun b o _ _ _ e n=>⟨o.slots,kp b o (fun z=>by rw[z,hP] at n;cases n) e⟩) (fun b o _ e n=>?_) (fun b o _ e=>?_) (fun b xs e=>?_) (fun b o u e=>?_) (fun b qs e=>?_) (fun m hm=>(hm.extBut hx nl).push _) hok I.bare
  ·rw[H1o b (fun z=>by rw[z,hP] at n;cases n) (ltc b o e).1 (ltc b o e).2]
   exact n
  ·by_cases z:b=Pt
   ·rw[z];exact⟨_,aZ _ htb⟩
   ·exact⟨o,kp b o z e⟩
  ·rw[H1o b (fun z=>by rw[z,hP] at e;cases e) (trk _ _ e).1 (trk _ _ e).2];exact e
  ·rw[H1o b (fun z=>by rw[z,hP] at e;cases e) (trk _ _ e).1 (trk _ _ e).2];exact e
  ·by_cases z:b=Pt
   ·rw[z,hP] at e
    cases e
    exact⟨_,z▸H1P⟩
   ·exact⟨#[],by rw[H1o b z (trk _ _ e).1 (trk _ _ e).2,e];simp⟩
 ·refine kla_makeFunctionHit (mg:=X.mg) hcl I.ok.glob hg hcode (hh.code _ I.kIn) hPh ht hf hb fun ctv h' tk hk hsz=>?_
  have hfn:H h'.objs.size=none:=I.hok.fresh hsz
  let fo:=av0 (X.env.qual++"<lambda>") params body scope y (acC X y) ((X.mg "__name__").getD .none) c0 ctv
  have kp:∀b o,s.heap.get? b=some o->(h'.push fo).get? b=some o:=fun b o e=>aZ _ (hk b o e)
  have hok:HOk X.prog X.w (upd H h'.objs.size (ab9 h'.objs.size fo)) (h'.push fo):=I.hok.laid kp hsz (aqJ (bK _ rfl))
  refine⟨.ref h'.objs.size,upd H h'.objs.size (ab9 h'.objs.size fo),?_,rfl,h h'.objs.size ctv hfn⟩
  exact I.step (g':=s.gens) (d':=s.drawn) (t':=tk) (ch:=[]) (fun _ z=>nomatch z) (fun b o _ _ _ e n=>kp b o e) (fun b o _ _ _ e n=>⟨o.slots,kp b o e⟩) (fun b o _ e n=>by rw[aaF (aX (aY (aS e) hsz))];exact n) (fun b o _ e=>⟨o,kp b o e⟩) (fun b xs e=>by rw[aaF (aaI e hfn)];exact e) (fun b o u e=>by rw[aaF (aaI e hfn)];exact e) (fun b qs e=>⟨#[],by rw[aaF (aaI e hfn),e];simp⟩) (fun m hm=>(hm.keeps hk).push _) hok I.bare
end
end L2
namespace L2
open PySem PySem.Spec PyProof.Rows PySem.W
section
variable{X:Cx}
theorem axT{pins:List (Addr×Obj)}{σ:St}{H:Hp}{s:Shared}{Q:VK}{us:List Value}{vs:List V}{k:Nat}{f:Addr}{fd:FuncData}{ps:List Str}{sp:Sp}{i:Nat}{y:Str}{v0:V}(F:FnOk X.prog X.w X.K X.mg X.base CX0 k f fd ps sp)(hr:Room k X.A)(hb:Binds X.K fd ps [])
  (I:Inv X pins σ H s) (r:Vals vs us) (hi:X.N[i]? =some y) (hv:σ[i]? =some (some v0)) (hky:X.env.kindOf y=some .cell) (hcy:X.env.cells.lookup y=some (acC X y)) (hfn:X.fn y=true)
  (h:H (acC X y)=none->∀(o0:Obj) (u0:Value),o0.data=.cell (some u0)->RelV v0 u0->sp vs (upd H (acC X y) (ab9 (acC X y) o0)) (fun v H'=>H' (acC X y)=some (ab9 (acC X y) o0)/\Q v (era H' (acC X y))) E0):
  wpAny (model X.prog X.w) X.A (call (.ref f) us) (EP X pins σ Q) X.xe s:=by
 obtain⟨m,hn,hl⟩:=I.loc
 obtain⟨u0,r0,l⟩:=hl i y v0 hi hv (.inr (.inl hky))
 rcases l with ⟨z,_⟩ | ⟨_,c,ec,o0,ho,hd⟩
 ·rw[hky] at z;cases z
 rw[hcy] at ec
 cases ec
 have ha:H (acC X y)=none:=I.freeC y _ hcy
 have hge:X.s₀.heap.objs.size<=acC X y:=I.ok.cab y _ hfn hcy
 have q:=h ha o0 u0 hd r0
 generalize ea:acC X y=a at *
 have hok:HOk X.prog X.w (upd H a (ab9 a o0)) s.heap:=I.hok.track ha (aqJ ho)
 have nb:∀b o,X.base.get? b=some o->b≠a:=fun b o e=>aX (aY (aY (aS e) I.ok.bsz) hge)
 have nf:∀b∈frs X.stack,b≠a:=fun b hb z=>by
  subst z
  rcases aW.mp (I.stkSub b hb) with e | hb
  ·exact I.cne y _ hcy (ea▸e)
  ·obtain⟨_,o,ho',_⟩:=I.ok.funs.mem hb
   exact absurd (aY (aS ho') hge) (cD _)
 have e0:Env0 X.prog X.w X.K X.mg X.base X.A X.stack s (upd H a (ab9 a o0)):=⟨I.ok.frames,I.ok.mod,fun b o e=>⟨(I.bs b o e).1,by rw[aaF (nb b o e)];exact (I.bs b o e).2⟩,bE I.ok.bsz I.sz,I.stack,fun b hb=>by rw[aaF (nf b hb)];exact I.stkFree b hb,hok,I.bare⟩
 have hlen:(us++[]).length=ps.length:=by rw[cJ,←r.length];exact F.len _ _ _ _ q
 have bt:=hb s us I.kIn hlen
 rw[cJ] at bt
 refine wpAny_call (codeAny_mono (F.run X.A X.stack s _ ⟨us,[]⟩ us vs _ E0 hr e0 bt r q) fun r s' hq=>?_)
 cases r with
 |error e=>exact False.elim hq
 |ok fl=>
  cases fl with
  |next=>exact False.elim hq
  |brk=>exact False.elim hq
  |cont=>exact False.elim hq
  |ret u=>
   obtain⟨v,H',os,bare,un,hok',rz,hca,q⟩:=hq
   have ca:=ak8 hok' hca
   refine I.after ⟨v,era H' a,os,bare,⟨fun b o e n hb hx=>?_,fun b o e n hb hx=>?_,fun b o e n hx=>?_,fun b o e hx=>un.there b o e hx,fun b xs e=>?_,fun b o u e=>?_,fun b qs e=>?_⟩,hok'.era_ (fun z e=>by rw[hca] at e;cases e) (fun xs e=>by rw[hca] at e;cases e),rz,q⟩
   ·by_cases z:b=a
    ·subst z
     rw[ho] at e
     cases e
     exact ca
    ·exact un.keep b o e (by rw[aaF z];exact n) hb hx
   ·exact un.slot b o e (by rw[aaF (nf b hb)];exact n) hb hx
   ·by_cases z:b=a
    ·rw[z];exact acP
    ·rw[abN z];exact un.free b o e (by rw[aaF z];exact n) hx
   ·have z:b≠a:=aaI e ha
    rw[abN z]
    exact un.tups b xs (by rw[aaF z];exact e)
   ·have z:b≠a:=aaI e ha
    rw[abN z]
    exact un.frzs b o u (by rw[aaF z];exact e)
   ·have z:b≠a:=aaI e ha
    obtain⟨more,e'⟩:=un.tbls b qs (by rw[aaF z];exact e)
    exact⟨more,by rw[abN z];exact e'⟩
noncomputable def axY(i:Nat)(a:Addr)(sp:Sp)(t:TA):TE:=fun σ H Q=>t σ H fun vs H1=>∃v0,σ[i]? =some (some v0)/\(H1 a=none->∀(o0:Obj) (u0:Value),o0.data=.cell (some u0)->RelV v0 u0->sp vs (upd H1 a (ab9 a o0)) (fun v H'=>H' a=some (ab9 a o0)/\Q v (era H' a)) E0)
theorem aFI{x:Str}{k k':Nat}{ps:List Str}{sp:Sp}{e:Expr}{es:List Expr}{t:TA}{p pos:Pos}(y:Str)(i:Nat)(D:Df X.prog X.w X.K X.mg X.base x k ps sp)(hr:Room k' X.A)(ha:As X (e::es) t)(hk:k<=k':=by decide)(hi:X.N[i]? =some y:=by rfl)(hky:X.env.kindOf y=some .cell:=by rfl)(hcy:X.env.cells.lookup y=some (acC X y):=by rfl)(hfn:X.fn y=true:=by rfl)(hg:Gl X x:=by rfl)
  (hdb:(x==("__debug__":Str))=false:=by decide) (he:starEach (e::es) X.env=(false,eval e X.env)::starEach es X.env:=by rfl) (hpl:(backTo pos (starEach es X.env)).any (·.1)=false:=by rfl):
  E X (.Call (.Name x p) (e::es) [] pos) (axY i (acC X y) sp t):=by
 obtain⟨f,fd,F,hb,hm,kp⟩:=D.ex
 refine⟨fun pins s σ H Q I h=>?_⟩
 refine dW (adJ I hg hm ?_ hdb)
 refine callWith_K (h₀:=X.base) I.ok.mod.kin kp (thn (ha.h pos pins s σ H _ I h) fun us s1 ⟨vs,H1,I1,r,v0,hv,q⟩=>⟨I1.kIn,?_⟩) he hpl
 exact axT F (hr.mono hk) hb I1 r hi hv hky hcy hfn q
noncomputable def Calls(P:Program)(w:World)(K:Frag)(mg:Str->Option Value)(base:Heap)(k:Nat)(f:Addr)(vs:List V)(H:Hp)(Q:VK):Prop:=
 ∀(A:Around) (outer:List Env) (s:Shared) (us:List Value),Room k A->Env0 P w K mg base A outer s H->Vals vs us->codeAny (model P w) A (.call (.ref f) ⟨us,[]⟩) (CR CX0 outer P w H s Q E0) s
noncomputable def FnHO(H:Hp)(f:Addr):Prop:=∃(oc:Value) (od:Option Addr) (fd:FuncData) (sl:Array (Option Value)),H f=some (ab9 f ⟨oc,od,.func fd,sl⟩)
noncomputable def aES(P:Program)(w:World)(K:Frag)(mg:Str->Option Value)(base:Heap)(k:Nat)(tv:TE)(t:TA):TE:=fun σ H Q=>tv σ H fun v H1=>∃f,v=.ref f/\FnHO H1 f/\t σ H1 fun vs H2=>FnHO H2 f/\Calls P w K mg base k f vs H2 Q
theorem FnHO.at_{P:Program}{w:World}{H:Hp}{h:Heap}{f:Addr}(x:HOk P w H h)(e:FnHO H f):FnAt f h:=by
 obtain⟨oc,od,fd,sl,e⟩:=e
 exact⟨oc,od,fd,sl,ak8 x e⟩
theorem aD0{y:Str}{e:Expr}{es:List Expr}{t:TA}{tv:TE}{k k':Nat}{p pos:Pos}(hr:Room k' X.A)(hv:E X (.Name y p) tv)(ha:As X (e::es) t)(hk:k<=k':=by decide)
  (he:starEach (e::es) X.env=(false,eval e X.env)::starEach es X.env:=by rfl) (hpl:(backTo pos (starEach es X.env)).any (·.1)=false:=by rfl):E X (.Call (.Name y p) (e::es) [] pos) (aES X.prog X.w X.K X.mg X.base k tv t):=by
 refine⟨fun pins s σ H Q I h=>?_⟩
 refine dW (thn (hv.h pins s σ H _ I h) fun v s1 ⟨x,H1,I1,r1,f,ex,hf1,q⟩=>?_)
 subst ex
 cases r1
 refine callWith_F (hf1.at_ I1.hok) (thn (ha.h pos pins s1 σ H1 _ I1 q) fun us s2 ⟨vs,H2,I2,r,hf2,hc⟩=>⟨hf2.at_ I2.hok,?_⟩) he hpl
 refine wpAny_call (codeAny_mono (hc X.A X.stack s2 us (hr.mono hk) I2.env0 r) fun r s' hq=>?_)
 cases r with
 |error e=>exact False.elim hq
 |ok fl=>
  cases fl with
  |ret u=>exact I2.after hq
  |next=>exact False.elim hq
  |brk=>exact False.elim hq
  |cont=>exact False.elim hq
end
end L2
namespace L2
open PySem PySem.Spec PyProof.Rows PySem.W
noncomputable def auL(tabs:List Addr)(bm:Addr)(H:Hp):Prop:=(∀b∈tabs,H b=some (.tbl #[]))/\(∀b,b∉tabs->H b=none∨∃o u,H b=some (.frz o u))/\awW H bm
theorem av4{P:Program}{w:World}{K:Frag}{mg mb:Str->Option Value}{k:Nat}{fa a:Addr}{fd:FuncData}{x:Str}{sp:Sp}{s₁:Shared}{vs:List Value}{ns:List Int}{tabs:List Addr}{bm:Addr}{ob:Obj}
  (KX:K.In s₁.heap) (hns:s₁.heap.Ns mainGlobals mg) (hb:s₁.heap.Ns builtinsNs mb) (hbb:∀x:Str,x≠"__name__"->mb x=bootBuiltins x) (hlim:s₁.heap.NoLimit) (hg:s₁.gens= #[])
  (hT:∀b∈tabs,isCodeTable s₁.heap b/\s₁.heap.get? b=some (tabObj #[])) (hTK:∀b∈tabs,K.lookup b=none)
  (hB:s₁.heap.get? bm=some ob) (hBK:K.lookup bm=none) (b4:ob.cls=.type "module") (b5:ob.dict=some builtinsNs) (b6:ob.data=.plain)
  (ha:s₁.heap.get? a=some {cls:=.type "list",data:=.seq vs.toArray}) (hi:IntsAre vs ns) (hl:ns.length<=sizeLine) (hr:Room k callerA)
  (F:∀base:Heap,K.In base->base.Ns mainGlobals mg->FnOk P w K mg base CX0 k fa fd [x] sp) (hbind:∀(s:Shared) (u:Value),BindsTo s fd ⟨[u],[]⟩ [(x,u)])
  (hsp:∀H:Hp,auL tabs bm H->SqL K H a (ns.map V.int)->sp [.ref a] H (fun v _=>v=.bl true) fun _ _ _=>False):
  codeAny (model P w) callerA (.call (.ref fa) ⟨[.ref a],[]⟩) (fun r s'=>r=.ok (.ret (.bool true))/\OldK s₁.heap s'.heap/\s'.os=s₁.os/\AllBare s'.gens) s₁:=by
 have rv:=am3 hi
 have lenV:=hi.length
 have aT:a∉tabs:=fun h=>by
  have:=(hT a h).2
  rw[ha] at this
  cases this
 have bT:bm∉tabs:=fun h=>by
  have:=(hT bm h).2
  rw[hB] at this
  cases this
  cases b6
 have ba:bm≠a:=fun h=>by
  rw[h,ha] at hB
  cases hB
  cases b6
 have core:∀H:Hp,auL tabs bm H->SqL K H a (ns.map V.int)->HOk P w H s₁.heap->(∀b,b∉tabs->H b≠none->b=a∨b=bm)->(H a≠none->K.lookup a=none)->
   codeAny (model P w) callerA (.call (.ref fa) ⟨[.ref a],[]⟩) (fun r s'=>r=.ok (.ret (.bool true))/\OldK s₁.heap s'.heap/\s'.os=s₁.os/\AllBare s'.gens) s₁:=by
  intro H hO hS hok hA hK
  have base_of:∀{b:Addr} {o:Obj},s₁.heap.get? b=some o->H b=none->(aoE s₁.heap H).get? b=some o:=fun e n=>axO e n
  have cases_:∀b,H b=none∨b∈tabs∨b=a∨b=bm:=fun b=>by
   by_cases h:b∈tabs
   ·exact .inr (.inl h)
   ·cases q:H b with
    |none=>exact .inl rfl
    |some u=>exact .inr (.inr (hA b h (by rw[q];simp)))
  have noA:∀{b:Addr} {o:Obj} {es:Array DictEntry} {ep:Nat},s₁.heap.get? b=some o->o.data=.dict es ep->H b=none:=fun {b o es ep} e d=>by
   rcases cases_ b with h | h | h | h
   ·exact h
   ·rw[(hT b h).2] at e;cases e;cases d
   ·rw[h,ha] at e;cases e
    have d':Data.seq vs.toArray _=Data.dict es ep:=d
    cases d'
   ·rw[h,hB] at e;cases e
    rw[b6] at d;cases d
  have nsK:∀{b:Addr} {m:Str->Option Value},s₁.heap.Ns b m->(aoE s₁.heap H).Ns b m:=fun {b m} ⟨o,es,ep,e,d,r⟩=>⟨o,es,ep,base_of e (noA e d),d,r⟩
  have hKb:K.In (aoE s₁.heap H):=fun b o e=>base_of (KX b o e) (by
   rcases cases_ b with h | h | h | h
   ·exact h
   ·rw[hTK b h] at e;cases e
   ·cases q:H b with
    |none=>rfl
    |some u=>
     subst h
     rw[hK (by rw[q];simp)] at e;cases e
   ·rw[h,hBK] at e;cases e)
  have hM:Mod K mg (aoE s₁.heap H):=⟨hKb,nsK hns,⟨mb,nsK hb,hbb⟩,let ⟨mc,h1,h2⟩:=hlim;⟨mc,nsK h1,h2⟩⟩
  have e0:Env0 P w K mg (aoE s₁.heap H) callerA [] s₁ H:=⟨rfl,hM,fun b o e=>aAM e,Nat.le_of_eq (avN _ _),trivial,fun b hb=>absurd (show b∈([]:List Addr) from hb) (by simp),hok,.of_eq hg⟩
  refine codeAny_mono ((F _ hKb (nsK hns)).run callerA [] s₁ H ⟨[.ref a],[]⟩ [.ref a] [.ref a] _ _ hr e0 (hbind s₁ (.ref a)) (.cons rfl .nil) (hsp H hO hS)) fun r s' h=>?_
  cases r with
  |error e=>exact False.elim h
  |ok fl=>
   cases fl with
   |next=>exact False.elim h
   |brk=>exact False.elim h
   |cont=>exact False.elim h
   |ret u=>
    obtain⟨v,H',os,bare,un,hok',r',q⟩:=h
    have q':v=.bl true:=q
    subst q'
    obtain rfl:u=Value.bool true:=r'
    have kept:∀b o,b∉tabs->s₁.heap.get? b=some o->s'.heap.get? b=some o:=fun b o nb e=>by
     cases q:H b with
     |none=>exact un.keep b o e q (by intro z;exact absurd (show b∈([]:List Addr) from z) (by simp)) (by simp)
     |some u=>
      rcases hO.2.1 b nb with z | ⟨ob',xs,z⟩
      ·rw[q] at z;cases z
      ·have z2:=un.frzs b ob' _ z
       obtain⟨e1,_⟩:=hok b _ z
       obtain⟨e2,_⟩:=hok' b _ z2
       rw[e] at e1;cases e1
       exact e2
    have grown:∀b,b∈tabs->∃ps,s'.heap.get? b=some (tabObj ps):=fun b hb=>by
     obtain⟨more,z⟩:=un.tbls b #[] (hO.1 b hb)
     exact⟨_,hok' b _ z⟩
    refine⟨rfl,⟨fun b o e=>?_,fun b o e=>?_⟩,os,bare⟩
    ·by_cases hb:b∈tabs
     ·obtain⟨ps,hp⟩:=grown b hb
      rw[(hT b hb).2] at e
      cases e
      exact .inr (.inl ⟨(hT b hb).1,rfl,#[],ps,rfl,by rw[Array.empty_append];exact hp⟩)
     ·exact .inl (kept b o hb e)
    ·by_cases hb:b∈tabs
     ·obtain⟨ps,hp⟩:=grown b hb
      exact⟨_,hp⟩
     ·exact⟨o,kept b o hb e⟩
 have tOk:∀(H:Hp) (b:Addr),b∈tabs->ObjOk P w H s₁.heap b (.tbl #[]):=fun H b hb=>(hT b hb).2
 let G:Hp->Hp:=fun H0 b=>if b∈tabs then some (.tbl #[]) else if b=bm then some (.frz ob (ab9 bm ob)) else H0 b
 have Gt:∀{H0:Hp} {b:Addr},b∈tabs->G H0 b=some (.tbl #[]):=fun hb=>if_pos hb
 have Gb:∀{H0:Hp},G H0 bm=some (.frz ob (ab9 bm ob)):=(if_neg bT).trans (if_pos rfl)
 have Go:∀{H0:Hp} {b:Addr},b∉tabs->b≠bm->G H0 b=H0 b:=fun h1 h2=>(if_neg h1).trans (if_neg h2)
 have only:∀H0:Hp,(∀b,H0 b=none∨∃o u,H0 b=some (.frz o u))->auL tabs bm (G H0):=fun H0 h=>⟨fun b hb=>Gt hb,fun b hb=>by
  by_cases e:b=bm
  ·subst e;exact .inr ⟨_,_,Gb⟩
  ·rw[Go hb e];exact h b,ob,_,Gb,b4,b5,b6⟩
 have oks:∀H0:Hp,(∀b u,b∉tabs->b≠bm->H0 b=some u->ObjOk P w (G H0) s₁.heap b u)->HOk P w (G H0) s₁.heap:=fun H0 h b u z=>by
  by_cases hb:b∈tabs
  ·rw[Gt hb] at z
   cases z
   exact tOk _ b hb
  ·by_cases e:b=bm
   ·subst e
    rw[Gb] at z
    cases z
    exact⟨hB,aqJ hB⟩
   ·rw[Go hb e] at z
    exact h b u hb e z
 cases hk:K.lookup a with
 |some o=>
  have e:=KX a o hk
  rw[ha] at e
  cases e
  refine core (G fun _=>none) (only _ fun b=>.inl rfl) (.inr ⟨_,vs.toArray,_,hk,rfl,rfl,rfl,by rw[bB,lenV];exact hl,by simpa using rv⟩) (oks _ fun b u _ _ z=>by cases z) (fun b hb z=>?_) fun z=>absurd (Go (H0:=fun _=>none) aT ba.symm) z
  by_cases e:b=bm
  ·exact .inr e
  ·exact absurd (Go (H0:=fun _=>none) hb e) z
 |none=>
  refine core (G fun b=>if b=a then some (.frz {cls:=.type "list",data:=.seq vs.toArray} (.lst (ns.map V.int))) else none) (only _ fun b=>?_) (.inl (.inr ⟨{cls:=.type "list",data:=.seq vs.toArray},(Go (H0:=fun b=>if b=a then some (.frz {cls:=.type "list",data:=.seq vs.toArray} (.lst (ns.map V.int))) else none) aT ba.symm).trans (if_pos rfl)⟩)) (oks _ fun b u hb nb z=>?_) (fun b hb z=>?_) fun _=>hk
  ·by_cases e:b=a
   ·exact .inr ⟨_,_,if_pos e⟩
   ·exact .inl (if_neg e)
  ·by_cases e:b=a
   ·have z:=(if_pos e).symm.trans z
    cases z
    subst e
    exact⟨ha,by rw[aR];exact hl,vs,_,rv,ha⟩
   ·have z:=(if_neg e).symm.trans z
    cases z
  ·by_cases e:b=bm
   ·exact .inr e
   ·by_cases e2:b=a
    ·exact .inl e2
    ·exact absurd ((Go (H0:=fun b=>if b=a then some (.frz {cls:=.type "list",data:=.seq vs.toArray} (.lst (ns.map V.int))) else none) hb e).trans (if_neg e2)) z
theorem walk_ofT{l:OpenLaw}{n k:Nat}{q:Program}{loose:List Str}{XP:(Str->Option Value)->Heap->Prop}{YP:World->Heap->Prop}{d:DefRec}{K:Params->Frag}{sp:World->Sp}{x:Str}{tabs:World->List Addr}{bm:Addr}
  (hn:l.most=some n) (hn2:n<=sizeLine) (hdf:d.params.defaults=[]) (hr:Room k callerA)
  (hY:∀(w:World) (h:Heap),YP w h->(K w.params).In h)
  (hTb:∀(w:World) (h:Heap) (mean:ExcName->Option Value) (mg mb:Str->Option Value),(K w.params).In h->Top q (looseW q loose) mean mg mb h->∀b∈tabs w,(isCodeTable h b/\h.get? b=some (tabObj #[]))/\(K w.params).lookup b=none)
  (hBm:∀(w:World) (h:Heap) (mg:Str->Option Value),(K w.params).In h->h.Ns mainGlobals mg->mg "__builtins__"=some (.ref bm)/\(K w.params).lookup bm=none)
  (F:∀(w:World) (mg:Str->Option Value) (fa:Addr) (h:Heap),(K w.params).In h->h.Ns mainGlobals mg->mg d.name=some (.ref fa)->
   ∃fd:FuncData,(∀(s:Shared) (u:Value),BindsTo s fd ⟨[u],[]⟩ [(x,u)])/\
    ∀base:Heap,(K w.params).In base->base.Ns mainGlobals mg->FnOk l.prog w (K w.params) mg base CX0 k fa fd [x] (sp w))
  (hsp:∀(w:World) (H:Hp) (a:Addr) (ns:List Int),ns.length<=n->auL (tabs w) bm H->SqL (K w.params) H a (ns.map V.int)->sp w [.ref a] H (fun v _=>v=.bl true) fun _ _ _=>False):
  WalkO q loose XP YP l.row.toRowW d [] (fun f vs=>PySem.call f vs):=by
 refine Att.attach_call hn hdf fun w s₀ s₁ mg mb fa o pm cd doc a vs ns G Y ho hd hcd hmg hobj hints hlen hg=>?_
 have KX:=hY w _ Y
 obtain⟨fd,hb,hF⟩:=F w mg fa _ KX G.T.g hmg
 have hT:=hTb w _ _ _ _ KX G.T
 obtain⟨bm',ob,a1,a2,a3,a4,a5,a6⟩:=G.T.bmain
 obtain⟨c1,c2⟩:=hBm w _ _ KX G.T.g
 rw[c1] at a1
 cases a1
 exact av4 KX G.T.g G.T.b G.T.builtins G.T.nolimit hg (fun b hb=>(hT b hb).1) (fun b hb=>(hT b hb).2) a3 c2 a4 a5 a6 hobj hints (bE hlen hn2) hr hF hb fun H hO hS=>hsp w H a ns hlen hO hS
theorem aA2{K:Frag}{mg:Str->Option Value}{h:Heap}{c Pt bm:Addr}{od:Option Addr}{sl:Array (Option Value)}{v0 v1 v2 v3 v4 v5 v6 v8 v12 v13 v14 v15 v16 v17:Value}{fl tx:Int}{tg tt tf:Tok}{inF:Bool}{file:Str}(X:K.In h)(G:h.Ns mainGlobals mg)
  (l:K.lookup c=some ⟨.type "code",od,.fields #[v0,v1,v2,v3,v4,v5,v6,.int fl tg,v8,.bool inF,.int tx tt,.ref Pt,v12,v13,v14,v15,v16,v17,.str file tf],sl⟩) (ne:c≠Pt)
  (b1:nsIn K mainGlobals "__builtins__"=some (some (.ref bm))) (b2:bm≠builtinsNs):Host K mg c Pt bm:=
 ⟨fun h' X'=>⟨_,_,file,tf,fl,tg,inF,tx,tt,X' _ _ l,rfl,rfl,rfl,rfl,rfl,rfl,rfl,rfl,ne⟩,mg_of X G b1,b2⟩
section
variable{X:Cx}{k:Nat}{o i value:Expr}{td ty tv:TE}{pos pos':Pos}
theorem tDnt(hr:Room k X.A)(hi:E X i ty)(ho:E X o td)(hm:behindInMarks .NotIn o=false:=by rfl):T X (.Compare i [.NotIn] [o] pos) (L2.tB (auT ty td)):=⟨aEX (avW (agF hr) hi.h ho.h) hm⟩
theorem sDpt(hr:Room k X.A)(ho:E X o td)(hi:E X i ty)(hv:E X value tv)(hs:swapsWith value (some (.Subscript o i pos')) pos.line X.env=pure false:=by rfl):S X (.Assign [.Subscript o i pos'] value pos) (aC0 td ty tv):=⟨aBA (agF hr) ho.h hi.h hv.h hs⟩
end
end L2
namespace L2
open PySem PySem.Spec PyProof.Rows PySem.SeqAt
section
variable{X:Cx}
theorem ahV{h:Heap}:∀{ws:List (List Nat)} {us:List Value},Vals (ws.map fun q=>V.str (Tx q)) us->ReadsAll h us (ws.map fun q=>PyData.str (Tx q)) []
 |[],_,.nil=>.nil
 |w::ws,_,.cons r t=>by
  obtain⟨k,rfl⟩:=r
  have:=ReadsAll.cons (Reads.str (h:=h) (Tx w) k) (ahV (h:=h) t)
  simpa using this
noncomputable def Asc(l:List Nat):Prop:=∀c∈l,c<128
theorem aFB{l:List Nat}(h:Asc l):PyData.strOk (Tx l)=true:=by
 unfold PyData.strOk
 show l.toArray.all (fun a=>decide (a<1114112))=true
 rw[List.all_toArray,bV]
 intro c hc
 exact dQ (Nat.lt_trans (h c hc) (by decide))
theorem auV:∀ws:List (List Nat),(∀w∈ws,Asc w)->PyData.canLayAll0 (ws.map fun q=>PyData.str (Tx q))=true
 |[],_=>by simp[PyData.canLayAll0]
 |w::r,h=>by
  simp only[bC,PyData.canLayAll0,PyData.canLay0,auV r fun v hv=>h v (bY _ hv),aFB (h w bX)]
  rfl
theorem ayS:∀ws:List (List Nat),PyData.depthAll (ws.map fun q=>PyData.str (Tx q))<=1
 |[]=>by simp[PyData.depthAll]
 |_::r=>by
  have:=ayS r
  simp only[bC,PyData.depthAll,PyData.depth]
  omega
theorem au5{ws:List (List Nat)}(h:∀w∈ws,Asc w):shaped (.list (ws.map fun q=>PyData.str (Tx q)))=true:=by
 have h1:=ayS ws
 have h2:PyData.depth (.list (ws.map fun q=>PyData.str (Tx q)))<=64:=by simp only[PyData.depth];omega
 show (PyData.canLay0 (.list (ws.map fun q=>PyData.str (Tx q)))&&decide (PyData.depth (.list (ws.map fun q=>PyData.str (Tx q)))<=64))=true
 rw[bJ]
 exact⟨by simp only[PyData.canLay0];exact auV ws h,dQ h2⟩
theorem axF:∀ws vs:List (List Nat),noMixAll (ws.map fun q=>PyData.str (Tx q)) (vs.map fun q=>PyData.str (Tx q))=true
 |[],[]=>by simp[noMixAll]
 |[],_::_=>by simp[noMixAll]
 |_::_,[]=>by simp[noMixAll]
 |_::r,_::q=>by simp[noMixAll,noMix,axF r q]
theorem aCL:∀ws vs:List (List Nat),PySem.Spec.sameAll (ws.map fun q=>PyData.str (Tx q)) (vs.map fun q=>PyData.str (Tx q))=decide (ws=vs)
 |[],[]=>by simp[PySem.Spec.sameAll]
 |[],_::_=>by simp[PySem.Spec.sameAll]
 |_::_,[]=>by simp[PySem.Spec.sameAll]
 |a::r,b::q=>by
  simp only[bC,PySem.Spec.sameAll,PySem.Spec.same,aCL r q]
  by_cases h1:a=b
  ·subst h1;simp
  ·have:¬Tx a=Tx b:=fun e=>h1 (Tx_inj.mp e)
   simp[h1,this]
theorem aKQ(hu:X.A.units+64<cLine):Op2 X (compareOp .Eq) (fun x y H Q=>∃(a b:Addr) (ws vs:List (List Nat)),x=.ref a/\y=.ref b/\SqL X.K H a (ws.map fun q=>V.str (Tx q))/\SqL X.K H b (vs.map fun q=>V.str (Tx q))/\(∀w∈ws,Asc w)/\(∀w∈vs,Asc w)/\Q (.bl (decide (ws=vs))) H):=by
 refine⟨fun pins s σ H x y v u Q I rx ry h=>?_⟩
 obtain⟨a,b,ws,vs,rfl,rfl,ha,hb,a1,a2,q⟩:=h
 cases rx
 cases ry
 obtain⟨its,rv,pl,_⟩:=I.list ha
 obtain⟨its',rv',pl',_⟩:=I.list hb
 obtain⟨o,ho,hc,n,hd⟩:=pl.isList
 obtain⟨o',ho',hc',n',hd'⟩:=pl'.isList
 exact eq_dataH_same (da:=.list (ws.map fun q=>PyData.str (Tx q))) (db:=.list (vs.map fun q=>PyData.str (Tx q))) (Reads.list ho hc hd (by simpa using ahV rv)) (Reads.list ho' hc' hd' (by simpa using ahV rv')) (au5 a1) (au5 a2) hu (by simp only[noMix];exact axF ws vs)
  (by show EP X pins σ Q (.bool (same (.list _) (.list _))) s;simp only[same];rw[aCL];exact⟨.bl _,H,I,rfl,q⟩)
end
section
variable{X:Cx}
end
end L2
namespace L2
open PySem PySem.Spec PyProof.Rows PySem.SeqAt
section
variable{js:List Nat}{σ:St}{tt:TT}{te:TE}{Q:VK}{H1:Hp}
theorem arT{K K':FG}{a:Addr}{xs:List V}(R:Nat->List V->Hp->Prop)(hm:∀i l H H',Keep H H'->R i l H->R i l H')(hn:xs.length<=sizeLine)(h0:R 0 [] H1)(hq:SqL K H1 a xs)
  (hs:∀(i:Nat) (v:V) (l:List V) (D:Addr) (H2:Hp) (E:V->Hp->Prop) (F:Hp->Prop),xs[i]? =some v->R i l H2->H1 D=none->Same H1 H2->H2 D=some (.lst l)->(∀y H5,Same H2 H5->R (i+1) (l++[y]) H5->E y H5)->(∀H4,Same H2 H4->R (i+1) l H4->F H4)->
   ∃(p:Addr) (x y z:V),v=.ref p/\SqT K' H2 p [x,y,z]/\tt (some x::some y::some z::aa4 js σ) H2 fun b H4=>if b=true then te (some x::some y::some z::aa4 js σ) H4 E else F H4)
  (hd:∀(D:Addr) (H2:Hp) (l:List V),R xs.length l H2->H1 D=none->Same H1 H2->H2 D=some (.lst l)->Q (.ref D) H2):
  atW (Itl K a) 3 js (aw5 K' 3 (alN (abX 0) (alN (abX 1) (alN (abX 2) aCF)))) σ tt te Q H1:=by
 intro D hD
 refine⟨fun i m H2=>m=xs.length-i/\i<=xs.length/\Same H1 H2/\∃l,H2 D=some (.lst l)/\l.length<=i/\R i l H2,⟨xs.length,by simp,bO _,aaB hD _,[],aaA,aQ _,hm _ _ _ _ (aaB hD _).keep h0⟩,?_⟩
 rintro i m H2 ⟨rfl,hi,s2,l,h2,hll,hR⟩
 by_cases hlt:i<xs.length
 ·refine .inr ⟨⟨xs,xs[i],s2.seq hq,by simp[hlt]⟩,fun v H3 y τ hτ=>?_⟩
  obtain⟨e,ev⟩:=y
  subst e
  have hv:=ev xs (s2.seq hq)
  obtain⟨t0,t1,t2,rfl⟩:∃t0 t1 t2,τ=[t0,t1,t2]:=by
   match τ,hτ with
   |[a,b,c],_=>exact⟨a,b,c,rfl⟩
  obtain⟨p,x,y,z',rfl,hp,h⟩:=hs i v l D _ (fun y H5=>∃ys,H5 D=some (.lst ys)/\ys.length<sizeLine/\∃m',m'<xs.length-i/\(m'=xs.length-(i+1)/\i+1<=xs.length/\Same H1 (upd H5 D (.lst (ys++[y])))/\∃l,(upd H5 D (.lst (ys++[y]))) D=some (.lst l)/\l.length<=i+1/\R (i+1) l (upd H5 D (.lst (ys++[y]))))) (fun H4=>∃m',m'<xs.length-i/\(m'=xs.length-(i+1)/\i+1<=xs.length/\Same H1 H4/\∃l,H4 D=some (.lst l)/\l.length<=i+1/\R (i+1) l H4)) hv hR hD s2 h2
   (fun z H5 s5 r5=>by
    refine⟨l,s5 _ _ h2,c9 hll (aY hlt hn),xs.length-(i+1),by omega,rfl,hlt,fun b o hb=>?_,l++[z],aaA,by rw[aU,bM];omega,hm _ _ _ _ (agW (s5 _ _ h2)) r5⟩
    rw[aaF (aaI hb hD)]
    exact s5 _ _ (s2 _ _ hb))
   (fun H4 s4 r4=>⟨xs.length-(i+1),by omega,rfl,hlt,s2.trans s4,l,s4 _ _ h2,by omega,r4⟩)
  exact⟨p,[x,y,z'],rfl,hp,rfl,x,[y,z'],rfl,y,[z'],rfl,z',[],rfl,rfl,⟨[some x,some y,some z'],rfl,rfl⟩,h⟩
 ·have e:i=xs.length:=by omega
  subst e
  exact .inl ⟨⟨xs,s2.seq hq,aQ _⟩,hd D H2 l hR hD s2 h2⟩
end
section
variable{X:Cx}
end
section
variable{X:Cx}
noncomputable def okV:V->Bool
 |.byt _=>false
 |.flt _=>false
 |_=>true
theorem ax8{A:Around}{s:Shared}{v:V}{u1 u2:Value}(h1:RelV v u1)(h2:RelV v u2)(ok:okV v=true):SeqAt.EqAt A s u1 u2 true:=by
 cases v with
 |int i=>
  obtain⟨t1,rfl⟩:=h1
  obtain⟨t2,rfl⟩:=h2
  have z:=SeqAt.EqAt.int_int (A:=A) (s:=s) i t1 i t2
  rw[beq_self_eq_true] at z
  exact z
 |str x=>
  obtain⟨t1,rfl⟩:=h1
  obtain⟨t2,rfl⟩:=h2
  have z:=SeqAt.EqAt.str_str (A:=A) (s:=s) x t1 x t2
  rw[beq_self_eq_true] at z
  exact z
 |byt _=>cases ok
 |flt _=>cases ok
 |non=>cases h1;cases h2;exact SeqAt.EqAt.same _
 |bl _=>cases h1;cases h2;exact SeqAt.EqAt.same _
 |ref _=>cases h1;cases h2;exact SeqAt.EqAt.same _
 |ty _=>cases h1;cases h2;exact SeqAt.EqAt.same _
theorem ahL{α β:Type}{F:α->β->Prop}:∀{l:List α} {r:List β},Paired F l r->∀(i:Nat) (h:i<r.length),∃a,l[i]? =some a/\F a r[i]
 |_,_,.nil,_,h=>absurd h (Nat.not_lt_zero _)
 |_,_,.cons r _,0,_=>⟨_,rfl,r⟩
 |_,_,.cons _ t,i+1,h=>ahL t i (Nat.lt_of_succ_lt_succ h)
theorem oEqV(hu:X.A.units+64<cLine):Op2 X (compareOp .Eq) (fun x y H Q=>∃(a b:Addr) (vs:List V),x=.ref a/\y=.ref b/\SqL X.K H a vs/\SqL X.K H b vs/\(∀v∈vs,okV v=true)/\Q (.bl true) H):=by
 refine⟨fun pins s σ H x y v u Q I rx ry h=>?_⟩
 obtain⟨a,b,vs,rfl,rfl,ha,hb,hok,q⟩:=h
 cases rx
 cases ry
 obtain⟨its,rv,pl,_⟩:=I.list ha
 obtain⟨its',rv',pl',_⟩:=I.list hb
 have e1:=rv.length
 have e2:=rv'.length
 refine SeqAt.eq_listAt (e:=fun _=>true) pl.isList pl'.isList (by rw[bB,bB];omega) (by omega) (fun i h1 h2=>?_) ?_
 ·rw[bB] at h1 h2
  obtain⟨v1,g1,r1⟩:=ahL rv i h1
  obtain⟨v2,g2,r2⟩:=ahL rv' i h2
  rw[g1] at g2
  cases g2
  rw[List.getElem_toArray,List.getElem_toArray]
  exact ax8 r1 r2 (hok _ (bL g1))
 ·exact⟨.bl true,H,I,by show Value.bool _=Value.bool true;congr 1;simp,q⟩
noncomputable def rUp:V->List V->Hp->VK->Prop:=fun x vs H Q=>∃a b:Str,x=.str a/\vs=[]/\Txt.upper a=b/\Builtin.Str.tooLong (Txt.upper a).length=false/\Q (.str b) H
theorem aK1:MtR X "str.upper" rUp:=by
 intro pins s σ H x xs v us Q I rx rv h
 obtain⟨a,b,rfl,rfl,e,hf,q⟩:=h
 cases rv
 obtain⟨t,rfl⟩:=rx
 exact SC.upper hf (by rw[e];exact⟨.str b,H,I.tok _,⟨_,rfl⟩,q⟩)
theorem eUpp{o:Expr}{to:TE}{apos cpos:Pos}(ho:E X o to)(hbase:attributeBase o "upper" X.env (eval o X.env)=eval o X.env:=by rfl)(hline:(apos.endLine==cpos.line)=true:=by rfl):
  E X (.Call (.Attribute o "upper" apos) [] [] cpos) (aE3 X.K "str" rUp to):=⟨azU PySem.F.plainAttrs_str PySem.F.slot_str_upper PySem.F.type_str_upper aK1 ho.h hbase hline⟩
end
end L2
namespace K55
open PySem PySem.Spec PyProof.Rows L2 KM
noncomputable def top(i:Nat):Stmt:=PySem.Challenge.pw_fivefields_k55_papers_of_any_kind.main.body.getD i (.Pass ⟨0,0,0,0⟩)
noncomputable abbrev anM:Stmt:=top 12
noncomputable abbrev acO:Stmt:=top 13
noncomputable abbrev af4:Stmt:=top 14
noncomputable abbrev anB:Stmt:=top 15
noncomputable abbrev ak1:Stmt:=top 7
noncomputable abbrev anX:Stmt:=top 16
noncomputable abbrev aqQ:Stmt:=top 17
noncomputable abbrev anK:Stmt:=top 18
noncomputable abbrev am9:Stmt:=top 19
noncomputable abbrev anE:Stmt:=top 20
noncomputable abbrev aiL:Stmt:=top 33
noncomputable abbrev anC:Stmt:=top 34
noncomputable abbrev arB:Stmt:=top 28
noncomputable abbrev afL:Stmt:=top 23
noncomputable abbrev ag4:Stmt:=top 24
noncomputable abbrev aCZ:Stmt:=top 38
noncomputable abbrev anF:Stmt:=top 68
noncomputable abbrev ag8:Stmt:=top 69
noncomputable abbrev ak6:Stmt:=top 70
noncomputable abbrev afO:Stmt:=top 71
noncomputable abbrev alC:Stmt:=top 72
noncomputable abbrev aeR:Stmt:=top 73
noncomputable abbrev aiJ:Stmt:=top 74
noncomputable abbrev ag1:Stmt:=top 75
noncomputable abbrev agI:Stmt:=top 85
noncomputable abbrev aj7:Stmt:=top 86
noncomputable abbrev aeE:Stmt:=top 87
noncomputable abbrev aiD:Stmt:=top 88
noncomputable abbrev aiU:Stmt:=aa0 (top 89) 0
noncomputable abbrev acS:Stmt:=aa0 (top 90) 0
noncomputable abbrev aeF:Stmt:=aa0 (top 90) 1
noncomputable abbrev aa9:Stmt:=aa0 (top 91) 0
noncomputable abbrev aiO:Stmt:=aa0 (top 91) 1
noncomputable abbrev ad3:Stmt:=aa0 (top 92) 0
noncomputable abbrev aiQ:Stmt:=aa0 (top 92) 1
noncomputable abbrev adV:Stmt:=aa0 (top 93) 0
noncomputable abbrev acA:Stmt:=aa0 (top 94) 0
noncomputable abbrev adY:Stmt:=aa0 (top 94) 1
noncomputable abbrev aeZ:Stmt:=aa0 (top 95) 0
noncomputable abbrev akT:Stmt:=aa0 (top 95) 1
noncomputable abbrev acX:Stmt:=aa0 (top 96) 0
noncomputable abbrev aeL:Stmt:=aa0 (top 96) 1
noncomputable abbrev ak4:Stmt:=top 97
noncomputable abbrev adX:Stmt:=top 98
noncomputable abbrev aeO:Stmt:=top 99
noncomputable abbrev acF:Stmt:=top 100
noncomputable abbrev agN:Stmt:=top 101
noncomputable abbrev aiC:Stmt:=top 102
noncomputable abbrev adW:Stmt:=top 103
noncomputable abbrev akO:Stmt:=top 35
noncomputable abbrev alE:Stmt:=top 113
noncomputable abbrev anV:Stmt:=top 114
noncomputable abbrev aeB:Stmt:=aa0 (top 115) 0
noncomputable abbrev afP:Stmt:=aa0 (top 115) 5
noncomputable abbrev aiR:Stmt:=top 116
noncomputable abbrev anG:Stmt:=top 117
noncomputable abbrev akZ:Stmt:=top 118
noncomputable abbrev af3:Stmt:=aa0 (top 115) 1
noncomputable abbrev aiN:Stmt:=aa0 (top 115) 2
noncomputable abbrev ag3:Stmt:=aa0 (top 115) 3
noncomputable abbrev afZ:Stmt:=aa0 (top 115) 8
noncomputable abbrev ag9:Stmt:=top 36
noncomputable abbrev alO:Stmt:=top 61
noncomputable abbrev agP:Stmt:=top 59
noncomputable abbrev arU:Stmt:=top 39
noncomputable abbrev adU:Stmt:=top 50
noncomputable abbrev akJ:Stmt:=top 51
noncomputable abbrev afV:Stmt:=top 48
noncomputable abbrev akU:Stmt:=top 52
noncomputable abbrev af0:Stmt:=aa0 (top 115) 6
noncomputable abbrev agM:Stmt:=top 60
noncomputable abbrev akB:Stmt:=top 62
noncomputable abbrev aiK:Stmt:=top 63
noncomputable abbrev aeP:Stmt:=top 120
noncomputable abbrev aiF:Stmt:=top 121
noncomputable abbrev afW:Stmt:=top 122
noncomputable abbrev aiB:Stmt:=top 123
noncomputable abbrev aeQ:Stmt:=top 124
noncomputable abbrev aiP:Stmt:=top 125
noncomputable abbrev ad1:Stmt:=top 126
noncomputable abbrev ah8:Stmt:=top 127
noncomputable abbrev agL:Stmt:=top 128
noncomputable abbrev afT:Stmt:=top 129
noncomputable abbrev ag0:Stmt:=top 53
noncomputable abbrev ac0:Stmt:=top 54
noncomputable abbrev afU:Stmt:=top 49
noncomputable abbrev amZ:Stmt:=top 55
noncomputable abbrev at6:Stmt:=top 56
noncomputable abbrev alH:Stmt:=top 130
noncomputable abbrev agS:Stmt:=top 131
noncomputable abbrev afN:Stmt:=top 132
noncomputable abbrev agR:Stmt:=top 133
noncomputable abbrev am2:Stmt:=top 134
noncomputable def aa8(y:Int):Bool:=decide (y%4=0)&&(!decide (y%100=0)||decide (y%400=0))
noncomputable def mb(y s:Int):Int:=(y+s-1) / s
noncomputable def db(y:Int):Int:=365*y+(mb y 4-mb y 100+mb y 400)
noncomputable def lasts:List Int:=[31,28,31,30,31,30,31,31,30,31,30,31]
noncomputable def aaP(y:Int):Int:=if aa8 y=true then 1 else 0
noncomputable def aaD(y m:Int):Int:=if m=2 then 28+aaP y else lasts.getD (m-1).toNat 0
theorem abV(y:Int):aa8 y=true↔(y%4=0/\(y%100≠0∨y%400=0)):=by
 unfold aa8
 simp
theorem asA{y:Int}(h:y%4=0/\(y%100≠0∨y%400=0)):aa8 y=true:=(abV y).mpr h
theorem ap3{y:Int}(h:¬(y%4=0/\(y%100≠0∨y%400=0))):aa8 y=false:=by
 cases e:aa8 y
 ·rfl
 ·exact absurd ((abV y).mp e) h
theorem aqT(y:Int):0<=aaP y/\aaP y<=1:=by
 unfold aaP
 split<;>omega
theorem anS(y:Int):db y=365*y+((y+3) / 4-(y+99) / 100+(y+399) / 400):=by
 have e1:y+4-1=y+3:=by omega
 have e2:y+100-1=y+99:=by omega
 have e3:y+400-1=y+399:=by omega
 unfold db mb
 rw[e1,e2,e3]
theorem ajN(y:Int):db (y+1)-db y=365+aaP y:=by
 unfold aaP
 by_cases h:aa8 y=true
 ·rw[if_pos h]
  rw[abV] at h
  unfold db mb
  omega
 ·rw[if_neg h]
  rw[abV] at h
  unfold db mb
  omega
theorem arZ{m:Int}(h1:1<=m)(h2:m<=12):atI (lasts.map V.int) (m-1)=some (V.int (lasts.getD (m-1).toNat 0)):=by
 have hk:(m-1).toNat<12:=by omega
 have e:m-1=(((m-1).toNat:Nat):Int):=by omega
 rw[e]
 refine ae6 ?_
 rw[bQ]
 generalize (m-1).toNat=j at hk
 match j,hk with
 |0,_ | 1,_ | 2,_ | 3,_ | 4,_ | 5,_ | 6,_ | 7,_ | 8,_ | 9,_ | 10,_ | 11,_=>rfl
 |n+12,h=>exact absurd h (by omega)
noncomputable def ahN(y:Int):Nat->Int
 |0=>0
 |n+1=>ahN y n+aaD y ((n:Int)+1)
noncomputable def ahead(y m:Int):Int:=ahN y (m-1).toNat
theorem adD{y m:Int}(h:1<=m):ahead y (m+1)=ahead y m+aaD y m:=by
 have e:(m+1-1).toNat=(m-1).toNat+1:=by omega
 have e2:(((m-1).toNat:Nat):Int)+1=m:=by omega
 unfold ahead
 rw[e]
 show ahN y (m-1).toNat+aaD y (((m-1).toNat:Int)+1)=_
 rw[e2]
theorem alJ(y:Int):ahead y 13=365+aaP y:=by
 show 0+aaD y 1+aaD y 2+aaD y 3+aaD y 4+aaD y 5+aaD y 6+aaD y 7+aaD y 8+aaD y 9+aaD y 10+aaD y 11+aaD y 12=_
 have e2:aaD y 2=28+aaP y:=rfl
 rw[e2]
 show 0+31+(28+aaP y)+31+30+31+30+31+31+30+31+30+31=_
 omega
theorem anT{y m:Int}(h1:1<=m)(h2:m<=12):28<=aaD y m:=by
 have hl:=aqT y
 unfold aaD
 split
 ·omega
 ·have hk:(m-1).toNat<12:=by omega
  generalize (m-1).toNat=j at hk
  match j,hk with
  |0,_ | 1,_ | 2,_ | 3,_ | 4,_ | 5,_ | 6,_ | 7,_ | 8,_ | 9,_ | 10,_ | 11,_=>decide
  |n+12,h=>exact absurd h (by omega)
theorem auD(y:Int):∀n:Nat,((List.range n).map fun i:Nat=>aaD y (1+(i:Int))).sum=ahN y n
 |0=>rfl
 |n+1=>by
  rw[anD,List.sum_append,auD y n]
  show ahN y n+(aaD y (1+(n:Int))+0)=ahN y n+aaD y ((n:Int)+1)
  rw[Int.add_comm 1 (n:Int),Int.add_zero]
noncomputable def aj6(k:Int):List Int:=if k / 7=12 then [2,29,k%7] else [k / 7+1,aaD 1 (k / 7+1),k%7]
noncomputable def mnA(k:Int):Int:=if k / 7=12 then 2 else k / 7+1
noncomputable def lnA(k:Int):Int:=if k / 7=12 then 29 else aaD 1 (k / 7+1)
theorem agZ(k:Int):aj6 k=[mnA k,lnA k,k%7]:=by
 unfold aj6 mnA lnA
 split<;>rfl
theorem aA7:∀n:Nat,n<91->(1<=mnA n/\mnA n<=12)/\(28<=lnA n/\lnA n<=31):=by decide +kernel
theorem agK{k:Int}(h0:0<=k)(h1:k<=90):(1<=mnA k/\mnA k<=12)/\Lf (lnA k) (k%7):=by
 have z:=aA7 k.toNat (by omega)
 rw[bG h0] at z
 exact⟨z.1,z.2,by omega,by omega⟩
noncomputable def DVn(c:Cs)(D:Addr)(H:Hp)(v:V)(ko:Option (List Mk)):Prop:=DV c H v ko/\∀p,v=.ref p->p≠D
theorem DVn.keep{c:Cs}{D:Addr}{H H':Hp}(s:Same H H'){v:V}{ko:Option (List Mk)}(h:DVn c D H v ko):DVn c D H' v ko:=⟨h.1.keep s,h.2⟩
theorem DVn.upd{c:Cs}{D:Addr}{H:Hp}{l':List V}{v:V}:∀{ko:Option (List Mk)},DVn c D H v ko->(∃l,H D=some (.lst l))->DVn c D (upd H D (.lst l')) v ko
 |none,h,_=>h
 |some ks,⟨⟨p,qs,e,h1,h2,h3⟩,hn⟩,⟨l,hl⟩=>⟨⟨p,qs,e,by rw[aaF (hn p e)];exact h1,h2.keepM (agW hl),h3⟩,hn⟩
noncomputable def RR(c:Cs)(m0 m1 m3:Int)(kd kw:Option (List Mk))(D:Addr)(i:Nat)(l:List V)(H:Hp):Prop:=match i with
 |0=>l=[]
 |1=>l=[.int m0]
 |2=>l=[.int m0,.int m1]
 |3=>∃dv,l=[.int m0,.int m1,dv]/\DVn c D H dv kd
 |4=>∃dv,l=[.int m0,.int m1,dv,.int m3]/\DVn c D H dv kd
 |_=>∃dv wv,l=[.int m0,.int m1,dv,.int m3,wv]/\DVn c D H dv kd/\DVn c D H wv kw
theorem RR.keep{c:Cs}{m0 m1 m3:Int}{kd kw:Option (List Mk)}{D:Addr}{l:List V}{H H':Hp}(s:Same H H'):∀{i:Nat},RR c m0 m1 m3 kd kw D i l H->RR c m0 m1 m3 kd kw D i l H'
 |0,h=>h
 |1,h=>h
 |2,h=>h
 |3,⟨dv,e,h⟩=>⟨dv,e,h.keep s⟩
 |4,⟨dv,e,h⟩=>⟨dv,e,h.keep s⟩
 |_+5,⟨dv,wv,e,h,h'⟩=>⟨dv,wv,e,h.keep s,h'.keep s⟩
theorem RR.upd{c:Cs}{m0 m1 m3:Int}{kd kw:Option (List Mk)}{D:Addr}{l l':List V}{H:Hp}(hl:∃l,H D=some (.lst l)):∀{i:Nat},RR c m0 m1 m3 kd kw D i l H->RR c m0 m1 m3 kd kw D i l (upd H D (.lst l'))
 |0,h=>h
 |1,h=>h
 |2,h=>h
 |3,⟨dv,e,h⟩=>⟨dv,e,h.upd hl⟩
 |4,⟨dv,e,h⟩=>⟨dv,e,h.upd hl⟩
 |_+5,⟨dv,wv,e,h,h'⟩=>⟨dv,wv,e,h.upd hl,h'.upd hl⟩
theorem aBO{ws:List (List Nat)}(h:∀w∈ws,w≠[]):inV (.str (Tx [])) (ws.map fun q=>V.str (Tx q))=false:=by
 unfold inV
 rw[List.any_map,cX]
 intro w hw hc
 have e:Tx w=Tx []:=beq_iff_eq.mp (show (Tx w==Tx [])=true from hc)
 exact h w hw (by have:=congrArg (fun z=>z.cps.toList) e;simpa [Tx] using this)
noncomputable def abT(m0 m1:Int)(dv:V)(m3:Int)(wv:V)(tm:Int):List (Str×V):=aaT "time_mask" (.int tm) (aaT "weekday_marks" wv (aaT "month_mask" (.int m3) (aaT "day_marks" dv (aaT "hour_mask" (.int m1) (aaT "minute_mask" (.int m0) [])))))
theorem ab3(m0 m1:Int)(dv:V)(m3:Int)(wv:V)(tm:Int):(abT m0 m1 dv m3 wv tm).lookup ("minute_mask":Str)=some (.int m0):=by
 unfold abT
 rw[aaE,if_neg (by decide +kernel),aaE,if_neg (by decide +kernel),aaE,if_neg (by decide +kernel),aaE,if_neg (by decide +kernel),aaE,if_neg (by decide +kernel),aaE,if_pos rfl]
theorem acM(m0 m1:Int)(dv:V)(m3:Int)(wv:V)(tm:Int):(abT m0 m1 dv m3 wv tm).lookup ("hour_mask":Str)=some (.int m1):=by
 unfold abT
 rw[aaE,if_neg (by decide +kernel),aaE,if_neg (by decide +kernel),aaE,if_neg (by decide +kernel),aaE,if_neg (by decide +kernel),aaE,if_pos rfl]
theorem akF(m0 m1:Int)(dv:V)(m3:Int)(wv:V)(tm:Int):(abT m0 m1 dv m3 wv tm).lookup ("day_marks":Str)=some (dv):=by
 unfold abT
 rw[aaE,if_neg (by decide +kernel),aaE,if_neg (by decide +kernel),aaE,if_neg (by decide +kernel),aaE,if_pos rfl]
theorem ab8(m0 m1:Int)(dv:V)(m3:Int)(wv:V)(tm:Int):(abT m0 m1 dv m3 wv tm).lookup ("month_mask":Str)=some (.int m3):=by
 unfold abT
 rw[aaE,if_neg (by decide +kernel),aaE,if_neg (by decide +kernel),aaE,if_pos rfl]
theorem agG(m0 m1:Int)(dv:V)(m3:Int)(wv:V)(tm:Int):(abT m0 m1 dv m3 wv tm).lookup ("weekday_marks":Str)=some (wv):=by
 unfold abT
 rw[aaE,if_neg (by decide +kernel),aaE,if_pos rfl]
theorem ajU(m0 m1:Int)(dv:V)(m3:Int)(wv:V)(tm:Int):(abT m0 m1 dv m3 wv tm).lookup ("time_mask":Str)=some (.int tm):=by
 unfold abT
 rw[aaE,if_pos rfl]
theorem ab6(m0 m1:Int)(dv:V)(m3:Int)(wv:V)(tm:Int):(abT m0 m1 dv m3 wv tm).lookup ("days_in":Str)=none:=by
 unfold abT
 rw[aaE,if_neg (by decide +kernel),aaE,if_neg (by decide +kernel),aaE,if_neg (by decide +kernel),aaE,if_neg (by decide +kernel),aaE,if_neg (by decide +kernel),aaE,if_neg (by decide +kernel)]
 rfl
theorem ai0(m0 m1:Int)(dv:V)(m3:Int)(wv:V)(tm:Int):(abT m0 m1 dv m3 wv tm).lookup ("shut_by":Str)=none:=by
 unfold abT
 rw[aaE,if_neg (by decide +kernel),aaE,if_neg (by decide +kernel),aaE,if_neg (by decide +kernel),aaE,if_neg (by decide +kernel),aaE,if_neg (by decide +kernel),aaE,if_neg (by decide +kernel)]
 rfl
theorem ajJ(m0 m1:Int)(dv:V)(m3:Int)(wv:V)(tm:Int):(abT m0 m1 dv m3 wv tm).lookup ("on_days":Str)=none:=by
 unfold abT
 rw[aaE,if_neg (by decide +kernel),aaE,if_neg (by decide +kernel),aaE,if_neg (by decide +kernel),aaE,if_neg (by decide +kernel),aaE,if_neg (by decide +kernel),aaE,if_neg (by decide +kernel)]
 rfl
theorem amC(m0 m1:Int)(dv:V)(m3:Int)(wv:V)(tm:Int):(abT m0 m1 dv m3 wv tm).lookup ("hours":Str)=none:=by
 unfold abT
 rw[aaE,if_neg (by decide +kernel),aaE,if_neg (by decide +kernel),aaE,if_neg (by decide +kernel),aaE,if_neg (by decide +kernel),aaE,if_neg (by decide +kernel),aaE,if_neg (by decide +kernel)]
 rfl
noncomputable def SV(b:Bool)(H:Hp)(v:V):Option (List Mk)->Prop
 |none=>v=.non
 |some ks=>∃p us,v=.ref p/\H p=some (.lst (us.map V.ref))/\Ft (TpAt b H) us ks
theorem SV.keep{b:Bool}{H H':Hp}(s:Same H H'){v:V}:∀{ko:Option (List Mk)},SV b H v ko->SV b H' v ko
 |none,h=>h
 |some _,⟨p,us,e,h1,h2⟩=>⟨p,us,e,s _ _ h1,h2.keepT s.keep⟩
theorem c42{a b:List Nat}(h1:42∉a)(h2:42∉b):42∉a++b:=fun h=>(bH.mp h).elim h1 h2
theorem atD{b:Bool}:∀{ws:List (List Nat)} {ks:List Mk} {t:List Nat} {k:Mk},Ws b ws ks->Cl t/\SpT b t k->Ws b (ws++[t]) (ks++[k])
 |_,_,_,_,.nil,h=>.cons h .nil
 |_,_,_,_,.cons r t,h=>.cons r (atD t h)
theorem acK{lo hi:Int}:∀{ws:List (List Nat)} {nss:List (List Int)},Paired (ad4 lo hi) ws nss->(∀w∈ws,Cl w)/\(∀n∈nss.flatten,lo<=n/\n<=hi)/\nss.flatten.length<=64*ws.length
 |_,_,.nil=>⟨fun w hw=>(nomatch hw),fun n hn=>(nomatch hn),aQ _⟩
 |w::ws,ns::nss,.cons r t=>by
  obtain⟨h1,h2,h3⟩:=acK t
  refine⟨fun v hv=>?_,fun n hn=>?_,?_⟩
  ·rcases aW.mp hv with z | z
   ·subst z;exact r.2.1
   ·exact h1 v z
  ·rw[cU] at hn
   exact (bH.mp hn).elim (r.2.2.1 n) (h2 n)
  ·rw[cU,aU,bU]
   have:=r.2.2.2.2
   omega
theorem aAA{lo hi:Int}:∀{ws:List (List Nat)} {nss:List (List Int)},Paired (ad4 lo hi) ws nss->ws≠[]->nss.flatten≠[]
 |_,_,.nil,h=>absurd rfl h
 |_,_,.cons r _,_=>fun e=>r.2.2.2.1 (by rw[cU,List.append_eq_nil_iff] at e;exact e.1)
theorem ac2{α β:Type}{F:α->β->Prop}:∀{l:List α} {r:List β} {a:α} {b:β},Paired F l r->F a b->Paired F (l++[a]) (r++[b])
 |_,_,_,_,.nil,h=>.cons h .nil
 |_,_,_,_,.cons x t,h=>.cons x (ac2 t h)
theorem akE{b:Bool}{ko:Option (List Mk)}{a l f:Int}(h:Lf l f)(o:∀ks,ko=some ks->∀k∈ks,k.ok)(ha:0<=a):0<=orO ko a l f:=by
 cases ko with
 |none=>exact ha
 |some ks=>exact ak3 ha (ayL h (o ks rfl))
theorem aFQ{a m:Int}{k:Nat}(ha:0<=a)(hk:a<2^k)(hm:0<=m):Builtin.bitOr a (m*2^k)=a+m*2^k:=by
 obtain⟨x,rfl⟩:=cG ha
 obtain⟨y,rfl⟩:=cG hm
 have e:((y:Int)*2^k)=((y*2^k:Nat):Int):=by rw[Int.natCast_mul,aa6]
 have hx:x<2^k:=by have:=aa6 k;omega
 rw[e,ao7,Nat.or_comm,←Nat.shiftLeft_eq,←Nat.shiftLeft_add_eq_or_of_lt hx,Nat.shiftLeft_eq]
 omega
noncomputable def tmF(h m:Int):Int:=orM ((aqB h).map fun z=>m*2^(60*z).toNat)
theorem avI{h m:Int}(hm:0<=m)(hm2:m<2^60):∀n:Nat,orM ((flt (tb h) 0 n).map fun z=>m*2^(60*z).toNat)=((flt (tb h) 0 n).map fun z=>m*2^(60*z).toNat).sum/\0<=((flt (tb h) 0 n).map fun z=>m*2^(60*z).toNat).sum/\((flt (tb h) 0 n).map fun z=>m*2^(60*z).toNat).sum<2^(60*n)
 |0=>by rw[alT];exact⟨rfl,aV 0,(by decide:(0:Int)<2^0)⟩
 |n+1=>by
  obtain⟨h1,h2,h3⟩:=avI hm hm2 n
  have p60:(2:Int)^(60*(n+1))=2^(60*n)*2^60:=by rw[show 60*(n+1)=60*n+60 by omega,Int.pow_add]
  have p0:=aaS (60*n)
  cases c:tb h n
  ·rw[apB c,p60]
   refine⟨h1,h2,Int.lt_of_lt_of_le h3 ?_⟩
   have:(2:Int)^(60*n)*1<=2^(60*n)*2^60:=Int.mul_le_mul_of_nonneg_left (by decide) (bN p0)
   omega
  ·have ez:(60*(0+(n:Int))).toNat=60*n:=by omega
   have hb:(m+1)*2^(60*n)<=2^60*2^(60*n):=Int.mul_le_mul_of_nonneg_right (by omega) (bN p0)
   have hn2:0<=m*2^(60*n):=Int.mul_nonneg hm (bN p0)
   rw[apP c,bD,List.map_singleton,aeI,List.sum_append,h1,ez,aFQ h2 h3 hm,p60]
   rw[Int.add_mul,Int.mul_comm (2^60)] at hb
   refine⟨by simp,?_,?_⟩
   ·show 0<=_+(m*2^(60*n)+0)
    omega
   ·show _+(m*2^(60*n)+0)<_
    omega
theorem avE{a b:Int}(h:a+1<=b):db (a+1)<=db b:=by rw[anS,anS];omega
theorem aD7{q z:Int}(h:0<=z):db (q*400+z)<=146097*q+366*z:=by rw[anS];omega
noncomputable def OkD(y m k:Int):Prop:=(1<=m/\m<=12)/\1<=k/\k<=aaD y m
noncomputable def acI(y m k:Int):Int:=db y+ahead y m+k-1
theorem axN(y:Int):∀(n d:Nat),n+d<=12->ahN y n<=ahN y (n+d)
 |_,0,_=>aV _
 |n,d+1,h=>by
  have h1:=axN y n d (by omega)
  have h2:28<=aaD y (((n+d:Nat):Int)+1):=anT (by omega) (by omega)
  show ahN y n<=ahN y (n+d)+aaD y (((n+d:Nat):Int)+1)
  omega
theorem ahA{y m n:Int}(h1:1<=m)(h2:m<=n)(h3:n<=13):ahead y m<=ahead y n:=by
 have e:(n-1).toNat=(m-1).toNat+(n-m).toNat:=by omega
 unfold ahead
 rw[e]
 exact axN y _ _ (by omega)
theorem axX{y m k:Int}(h:OkD y m k):db y<=acI y m k/\acI y m k<db (y+1)/\acI y m k<db y+ahead y (m+1):=by
 obtain⟨⟨h1,h2⟩,h3,h4⟩:=h
 have a1:=adD (y:=y) h1
 have a2:ahead y (m+1)<=ahead y 13:=ahA (by omega) (by omega) (by omega)
 have a3:=alJ y
 have a4:=ajN y
 have a5:ahead y 1<=ahead y m:=ahA (by omega) h1 (by omega)
 have a6:ahead y 1=0:=rfl
 unfold acI
 omega
theorem avJ{y m k y' m' k':Int}(h:OkD y m k)(h':OkD y' m' k')(e:acI y m k=acI y' m' k'):y=y'/\m=m'/\k=k':=by
 have b:=axX h
 have b':=axX h'
 have ey:y=y':=by
  rcases Int.lt_trichotomy y y' with z | z | z
  ·have:=avE (a:=y) (b:=y') (by omega)
   omega
  ·exact z
  ·have:=avE (a:=y') (b:=y) (by omega)
   omega
 subst ey
 have em:m=m':=by
  rcases Int.lt_trichotomy m m' with z | z | z
  ·have:=ahA (y:=y) (m:=m+1) (n:=m') (by have:=h.1.1;omega) (by omega) (by have:=h'.1.2;omega)
   have q1:=h'.2.1
   have q2:acI y m' k'=db y+ahead y m'+k'-1:=rfl
   omega
  ·exact z
  ·have:=ahA (y:=y) (m:=m'+1) (n:=m) (by have:=h'.1.1;omega) (by omega) (by have:=h.1.2;omega)
   have q1:=h.2.1
   have q2:acI y m k=db y+ahead y m+k-1:=rfl
   omega
 subst em
 unfold acI at e
 exact⟨rfl,rfl,by omega⟩
noncomputable def plc(y m:Int):Int:=if m=2/\aa8 y=true then 12 else m-1
noncomputable def kindOf(y m:Int):Int:=7*plc y m+(db y+ahead y m+6)%7
theorem aw9{y m:Int}(h1:1<=m)(h2:m<=12):0<=plc y m/\plc y m<=12:=by
 unfold plc
 split<;>omega
theorem ajP{y m:Int}(h1:1<=m)(h2:m<=12):0<=kindOf y m/\kindOf y m<=90:=by
 have:=aw9 (y:=y) h1 h2
 unfold kindOf
 omega
theorem anN{y m:Int}(h:¬m=2):aaD y m=lasts.getD (m-1).toNat 0:=by unfold aaD;rw[if_neg h]
theorem ax1{y m:Int}(h1:1<=m)(h2:m<=12):aj6 (kindOf y m)=[m,aaD y m,kindOf y m%7]:=by
 have hp:=aw9 (y:=y) h1 h2
 have e:kindOf y m / 7=plc y m:=by unfold kindOf;omega
 unfold aj6
 rw[e]
 by_cases c:m=2/\aa8 y=true
 ·have ep:plc y m=12:=by unfold plc;rw[if_pos c]
  have el:aaD y m=29:=by unfold aaD aaP;rw[if_pos c.1,if_pos c.2];rfl
  rw[ep,if_pos rfl,el,c.1]
 ·have ep:plc y m=m-1:=by unfold plc;rw[if_neg c]
  rw[ep,if_neg (by omega)]
  have e1:m-1+1=m:=by omega
  rw[e1]
  have el:aaD 1 m=aaD y m:=by
   by_cases c2:m=2
   ·have hl:¬aa8 y=true:=fun z=>c ⟨c2,z⟩
    unfold aaD aaP
    rw[if_pos c2,if_pos c2,if_neg hl]
    rfl
   ·rw[anN c2,anN c2]
  rw[el]
theorem acJ{y m:Int}(h1:1<=m)(h2:m<=12):mnA (kindOf y m)=m/\lnA (kindOf y m)=aaD y m:=by
 have e:=ax1 (y:=y) h1 h2
 rw[agZ] at e
 injection e with e1 e
 injection e with e2 e
 exact⟨e1,e2⟩
theorem am6{y m:Int}(h1:1<=m)(h2:m<=12):28<=aaD y m/\aaD y m<=31:=by
 have e:=acJ (y:=y) h1 h2
 have k:=ajP (y:=y) h1 h2
 rw[←e.2]
 exact (agK k.1 k.2).2.1
theorem ayN(y r:Int):aa8 (y+400*r)=aa8 y:=by
 rw[cN,abV,abV]
 omega
theorem akY(y r m:Int):aaD (y+400*r) m=aaD y m:=by
 unfold aaD aaP
 rw[ayN]
theorem at7(y r:Int):∀n,ahN (y+400*r) n=ahN y n
 |0=>rfl
 |n+1=>by
  show ahN (y+400*r) n+aaD (y+400*r) ((n:Int)+1)=ahN y n+aaD y ((n:Int)+1)
  rw[at7 y r n,akY]
theorem aET(y r:Int):db (y+400*r)=db y+146097*r:=by rw[anS,anS];omega
theorem au8{y m k d r x:Int}(h:OkD y m k)(e:acI y m k=x)(ed:x+146097*r=d):OkD (y+400*r) m k/\acI (y+400*r) m k=d:=by
 refine⟨⟨h.1,h.2.1,by rw[akY];exact h.2.2⟩,?_⟩
 have a:ahead (y+400*r) m=ahead y m:=at7 y r _
 unfold acI at e ⊢
 rw[aET,a]
 omega
noncomputable def shK(m0 m1 m3:Int)(kd kw:Option (List Mk))(d r y m k:Int):V:=
 if tb m3 m.toNat=false then .str (Tx [109,111,110,116,104]) else if tb (abP kd kw (aaD y m) ((d-k+1+6)%7)) k.toNat=false then .str (Tx [100,97,121])
 else if tb m1 (r / 60).toNat=false then .str (Tx [104,111,117,114]) else if tb m0 (r%60).toNat=false then .str (Tx [109,105,110,117,116,101]) else .non
section
variable{m0 m1 m3:Int}{kd kw:Option (List Mk)}{d r y m k:Int}
theorem sh1(h:tb m3 m.toNat=false):shK m0 m1 m3 kd kw d r y m k=.str (Tx [109,111,110,116,104]):=if_pos h
theorem sh2(h1:tb m3 m.toNat=true)(h:tb (abP kd kw (aaD y m) ((d-k+1+6)%7)) k.toNat=false):shK m0 m1 m3 kd kw d r y m k=.str (Tx [100,97,121]):=by
 unfold shK
 rw[if_neg (by rw[h1];decide),if_pos h]
theorem sh3(h1:tb m3 m.toNat=true)(h2:tb (abP kd kw (aaD y m) ((d-k+1+6)%7)) k.toNat=true)(h:tb m1 (r / 60).toNat=false):shK m0 m1 m3 kd kw d r y m k=.str (Tx [104,111,117,114]):=by
 unfold shK
 rw[if_neg (by rw[h1];decide),if_neg (by rw[h2];decide),if_pos h]
theorem sh4(h1:tb m3 m.toNat=true)(h2:tb (abP kd kw (aaD y m) ((d-k+1+6)%7)) k.toNat=true)(h3:tb m1 (r / 60).toNat=true)(h:tb m0 (r%60).toNat=false):shK m0 m1 m3 kd kw d r y m k=.str (Tx [109,105,110,117,116,101]):=by
 unfold shK
 rw[if_neg (by rw[h1];decide),if_neg (by rw[h2];decide),if_neg (by rw[h3];decide),if_pos h]
theorem sh5(h1:tb m3 m.toNat=true)(h2:tb (abP kd kw (aaD y m) ((d-k+1+6)%7)) k.toNat=true)(h3:tb m1 (r / 60).toNat=true)(h:tb m0 (r%60).toNat=true):shK m0 m1 m3 kd kw d r y m k=.non:=by
 unfold shK
 rw[if_neg (by rw[h1];decide),if_neg (by rw[h2];decide),if_neg (by rw[h3];decide),if_neg (by rw[h];decide)]
theorem ajO(hk:OkD y m k)(e:acI y m k=d):kindOf y m%7=(d-k+1+6)%7:=by
 unfold kindOf
 unfold acI at e
 omega
theorem azZ(hk:OkD y m k):Lf (aaD y m) ((d-k+1+6)%7):=⟨am6 hk.1.1 hk.1.2,by omega,by omega⟩
end
theorem acE{b:Bool}(h:¬b=false):b=true:=by simpa using h
theorem ap2{kd kw:Option (List Mk)}{l f:Int}(h:Lf l f)(od:∀ks,kd=some ks->∀k∈ks,k.ok)(ow:∀ks,kw=some ks->∀k∈ks,k.ok):0<=abP kd kw l f:=by
 unfold abP
 split
 ·have:=aaS l.toNat
  have:(2:Int)^l.toNat ≥ 1:=by omega
  omega
 ·exact akE (b:=true) h ow (akE (b:=false) h od (aV 0))
theorem anJ{c:Cs}{H:Hp}{v:V}:∀{ko:Option (List Mk)},DV c H v ko->∀ks,ko=some ks->∀k∈ks,k.ok
 |some _,⟨_,_,_,_,_,h⟩,_,rfl=>h
noncomputable def tabA:List Nat:=[0,31,59,90,120,151,181,212,243,273,304,334]
noncomputable def codes:List Nat:=[13,1,2,3,11,6,0,1,9,4,5,6,7,2,3,4,12,0,1,2,10,5,6,0,8,3,4,5,13,1,2,3,11,6,0,1,9,4,5,6,7,2,3,4,12,0,1,2,10,5,6,0,8,3,4,5,13,1,2,3,11,6,0,1,9,4,5,6,7,2,3,4,12,0,1,2,10,5,6,0,8,3,4,5,13,1,2,3,11,6,0,1,9,4,5,6,7,2,3,4,5,6,0,1,9,4,5,6,7,2,3,4,12,0,1,2,10,5,6,0,8,3,4,5,13,1,2,3,11,6,0,1,9,4,5,6,7,2,3,4,12,0,1,2,10,5,6,0,8,3,4,5,13,1,2,3,11,6,0,1,9,4,5,6,7,2,3,4,12,0,1,2,10,5,6,0,8,3,4,5,13,1,2,3,11,6,0,1,9,4,5,6,7,2,3,4,12,0,1,2,3,4,5,6,7,2,3,4,12,0,1,2,10,5,6,0,8,3,4,5,13,1,2,3,11,6,0,1,9,4,5,6,7,2,3,4,12,0,1,2,10,5,6,0,8,3,4,5,13,1,2,3,11,6,0,1,9,4,5,6,7,2,3,4,12,0,1,2,10,5,6,0,8,3,4,5,13,1,2,3,11,6,0,1,9,4,5,6,7,2,3,4,12,0,1,2,10,5,6,0,1,2,3,4,12,0,1,2,10,5,6,0,8,3,4,5,13,1,2,3,11,6,0,1,9,4,5,6,7,2,3,4,12,0,1,2,10,5,6,0,8,3,4,5,13,1,2,3,11,6,0,1,9,4,5,6,7,2,3,4,12,0,1,2,10,5,6,0,8,3,4,5,13,1,2,3,11,6,0,1,9,4,5,6,7,2,3,4,12,0,1,2,10,5,6,0,8,3,4,5,13,1,2,3,11,6,0,1,9,4,5,6,7,2,3,4,12,0,1,2,10,5,6,0,8,3,4,5,13,1,2,3,11,6,0,1,9,4,5,6]
noncomputable def afS(y:Nat):Nat:=(if (y%4==0&&(y%100 !=0||y%400==0))=true then 7 else 0)+(365*y+(y+3) / 4-(y+99) / 100+(y+399) / 400+6)%7
theorem arH:(List.range 440).map afS=codes:=by decide +kernel
noncomputable def akX(c m:Nat):Nat:=7*(if (Nat.beq m 1&&Nat.ble 7 c)=true then 12 else m)+(c%7+tabA.getD m 0+(if (Nat.ble 2 m&&Nat.ble 7 c)=true then 1 else 0))%7
noncomputable def aq8(k:Nat):Nat:=if Nat.ble 84 k=true then 1 else k / 7
noncomputable def aj3(k:Nat):Nat:=if Nat.ble 84 k=true then 40 else 12
noncomputable def aeU(k b:Nat):List Nat->Nat->Bool
 |[],_=>true
 |c::r,a=>if Nat.beq (akX c (aq8 k)) k=true then aeU k b r b else (Nat.ble 2 a&&aeU k b r (a-1))
theorem axP:∀k:Nat,k<91->aeU k (aj3 k) codes (aj3 k)=true:=by decide +kernel
theorem ah4(k b:Nat)(hb:1<=b):∀(n:Nat) (l:List Nat) (a:Nat),1<=a->a<=b->aeU k b l a=true->∃a',1<=a'/\a'<=b/\aeU k b (l.drop n) a'=true
 |0,_,a,h0,h1,h=>⟨a,h0,h1,h⟩
 |n+1,[],a,h0,h1,_=>⟨a,h0,h1,rfl⟩
 |n+1,c::r,a,h0,h1,h=>by
  have h:(if Nat.beq (akX c (aq8 k)) k=true then aeU k b r b else (Nat.ble 2 a&&aeU k b r (a-1)))=true:=h
  show ∃a',1<=a'/\a'<=b/\aeU k b (r.drop n) a'=true
  split at h
  ·exact ah4 k b hb n r b hb (aQ _) h
  ·rw[bJ] at h
   have:2<=a:=dG h.1
   exact ah4 k b hb n r (a-1) (by omega) (by omega) h.2
theorem ap9(k b:Nat):∀(l:List Nat) (a:Nat),1<=a->a<=l.length->aeU k b l a=true->∃j,j<a/\∃c,l[j]? =some c/\akX c (aq8 k)=k
 |[],a,h0,h1,_=>absurd h1 (by simp;omega)
 |c::r,a,h0,h1,h=>by
  have h:(if Nat.beq (akX c (aq8 k)) k=true then aeU k b r b else (Nat.ble 2 a&&aeU k b r (a-1)))=true:=h
  split at h
  ·rename_i q
   exact⟨0,by omega,c,rfl,Nat.eq_of_beq_eq_true q⟩
  ·rw[bJ] at h
   have h2:2<=a:=dG h.1
   have h1':a<=r.length+1:=h1
   obtain⟨j,hj,c',e,q⟩:=ap9 k b r (a-1) (by omega) (by omega) h.2
   exact⟨j+1,by omega,c',e,q⟩
theorem aFL{k:Nat}(hk:k<91){y:Nat}(hy:y<400):∃j,j<aj3 k/\akX (afS (y+j)) (aq8 k)=k:=by
 have hb:1<=aj3 k/\aj3 k<=40:=by unfold aj3;split<;>omega
 obtain⟨a,a0,a1,h⟩:=ah4 k (aj3 k) hb.1 y codes (aj3 k) hb.1 (aQ _) (axP k hk)
 have hl:codes.length=440:=by rw[←arH,aR,dE]
 obtain⟨j,hj,c,e,q⟩:=ap9 k (aj3 k) _ a a0 (by rw[c6,hl];omega) h
 rw[List.getElem?_drop,←arH,bF,List.getElem?_range (by omega)] at e
 refine⟨j,by omega,?_⟩
 have e:afS (y+j)=c:=a8 e
 rw[e]
 exact q
theorem aH9(y:Int):ahead y 1=0:=by
 show 0=_
 have e2:aaD y 2=28+aaP y:=rfl
 try rw[e2]
 show (0:Int)=_
 omega
theorem aPX(y:Int):ahead y 2=31:=by
 show 0+aaD y 1=_
 have e2:aaD y 2=28+aaP y:=rfl
 try rw[e2]
 show (0+31:Int)=_
 omega
theorem aPU(y:Int):ahead y 3=59+aaP y:=by
 show 0+aaD y 1+aaD y 2=_
 have e2:aaD y 2=28+aaP y:=rfl
 try rw[e2]
 show (0+31+(28+aaP y):Int)=_
 omega
theorem aIV(y:Int):ahead y 4=90+aaP y:=by
 show 0+aaD y 1+aaD y 2+aaD y 3=_
 have e2:aaD y 2=28+aaP y:=rfl
 try rw[e2]
 show (0+31+(28+aaP y)+31:Int)=_
 omega
theorem aLU(y:Int):ahead y 5=120+aaP y:=by
 show 0+aaD y 1+aaD y 2+aaD y 3+aaD y 4=_
 have e2:aaD y 2=28+aaP y:=rfl
 try rw[e2]
 show (0+31+(28+aaP y)+31+30:Int)=_
 omega
theorem aOX(y:Int):ahead y 6=151+aaP y:=by
 show 0+aaD y 1+aaD y 2+aaD y 3+aaD y 4+aaD y 5=_
 have e2:aaD y 2=28+aaP y:=rfl
 try rw[e2]
 show (0+31+(28+aaP y)+31+30+31:Int)=_
 omega
theorem aP3(y:Int):ahead y 7=181+aaP y:=by
 show 0+aaD y 1+aaD y 2+aaD y 3+aaD y 4+aaD y 5+aaD y 6=_
 have e2:aaD y 2=28+aaP y:=rfl
 try rw[e2]
 show (0+31+(28+aaP y)+31+30+31+30:Int)=_
 omega
theorem aQB(y:Int):ahead y 8=212+aaP y:=by
 show 0+aaD y 1+aaD y 2+aaD y 3+aaD y 4+aaD y 5+aaD y 6+aaD y 7=_
 have e2:aaD y 2=28+aaP y:=rfl
 try rw[e2]
 show (0+31+(28+aaP y)+31+30+31+30+31:Int)=_
 omega
theorem aHD(y:Int):ahead y 9=243+aaP y:=by
 show 0+aaD y 1+aaD y 2+aaD y 3+aaD y 4+aaD y 5+aaD y 6+aaD y 7+aaD y 8=_
 have e2:aaD y 2=28+aaP y:=rfl
 try rw[e2]
 show (0+31+(28+aaP y)+31+30+31+30+31+31:Int)=_
 omega
theorem aI7(y:Int):ahead y 10=273+aaP y:=by
 show 0+aaD y 1+aaD y 2+aaD y 3+aaD y 4+aaD y 5+aaD y 6+aaD y 7+aaD y 8+aaD y 9=_
 have e2:aaD y 2=28+aaP y:=rfl
 try rw[e2]
 show (0+31+(28+aaP y)+31+30+31+30+31+31+30:Int)=_
 omega
theorem aCQ(y:Int):ahead y 11=304+aaP y:=by
 show 0+aaD y 1+aaD y 2+aaD y 3+aaD y 4+aaD y 5+aaD y 6+aaD y 7+aaD y 8+aaD y 9+aaD y 10=_
 have e2:aaD y 2=28+aaP y:=rfl
 try rw[e2]
 show (0+31+(28+aaP y)+31+30+31+30+31+31+30+31:Int)=_
 omega
theorem aCS(y:Int):ahead y 12=334+aaP y:=by
 show 0+aaD y 1+aaD y 2+aaD y 3+aaD y 4+aaD y 5+aaD y 6+aaD y 7+aaD y 8+aaD y 9+aaD y 10+aaD y 11=_
 have e2:aaD y 2=28+aaP y:=rfl
 try rw[e2]
 show (0+31+(28+aaP y)+31+30+31+30+31+31+30+31+30:Int)=_
 omega
theorem auZ(y:Int):(y%400).toNat<400/\((afS (y%400).toNat:Nat):Int)=(if aa8 y=true then 7 else 0)+(db y+6)%7:=by
 have h0:=bW y (show (400:Int)≠0 by decide)
 have h1:=cF y (show (0:Int)<400 by decide)
 refine⟨by omega,?_⟩
 have er:((y%400).toNat:Int)=y%400:=bG h0
 generalize (y%400).toNat=r at er
 have ed:=anS y
 have g1:(y+3) / 4=100*(y / 400)+((r:Int)+3) / 4:=by omega
 have g2:(y+99) / 100=4*(y / 400)+((r:Int)+99) / 100:=by omega
 have g3:(y+399) / 400=y / 400+((r:Int)+399) / 400:=by omega
 have g4:db y+6=7*(20871*(y / 400))+(365*r+(r+3) / 4-(r+99) / 100+(r+399) / 400+6):=by
  rw[ed,g1,g2,g3]
  clear h0 h1 ed g1 g2 g3
  omega
 have g5:(db y+6)%7=(365*(r:Int)+(r+3) / 4-(r+99) / 100+(r+399) / 400+6)%7:=by
  rw[g4]
  clear h0 h1 ed g1 g2 g3 g4 er
  omega
 have e7:(365*r+(r+3) / 4-(r+99) / 100+(r+399) / 400+6)%7=((db y+6)%7).toNat:=by
  rw[show ((r:Int)+3) / 4=(((r+3) / 4:Nat):Int) by omega,show ((r:Int)+99) / 100=(((r+99) / 100:Nat):Int) by omega,show ((r:Int)+399) / 400=(((r+399) / 400:Nat):Int) by omega] at g5
  have hq:(r+99) / 100<=365*r+(r+3) / 4:=by omega
  rw[g5]
  generalize (r+3) / 4=q1 at hq ⊢
  generalize (r+99) / 100=q2 at hq ⊢
  generalize (r+399) / 400=q3
  omega
 have e8:=bW (db y+6) (show (7:Int)≠0 by decide)
 have il:=abV y
 unfold afS
 rw[e7]
 by_cases c:aa8 y=true
 ·rw[if_pos c,if_pos ?_]
  ·omega
  ·have z:=il.mp c
   rw[bJ,Bool.or_eq_true,beq_iff_eq,bne_iff_ne,beq_iff_eq]
   omega
 ·rw[if_neg c,if_neg ?_]
  ·omega
  ·intro z
   rw[bJ,Bool.or_eq_true,beq_iff_eq,bne_iff_ne,beq_iff_eq] at z
   exact c (il.mpr (by omega))
theorem kc7{X Z P:Int}{p T l:Nat}(hP:P=7*(p:Int))(hZ:Z=(T:Int)+l):P+(X+Z+6)%7=((7*p+(((X+6)%7).toNat+T+l)%7:Nat):Int):=by omega
theorem awR(y:Int){m:Nat}(hm:m<12):kindOf y ((m:Int)+1)=(akX (afS (y%400).toNat) m:Nat):=by
 obtain⟨_,hc⟩:=auZ y
 generalize afS (y%400).toNat=c at hc
 unfold kindOf plc akX
 have e8:=bW (db y+6) (show (7:Int)≠0 by decide)
 have e9:=cF (db y+6) (show (0:Int)<7 by decide)
 by_cases L:aa8 y=true
 ·rw[if_pos L] at hc
  have hL:aaP y=1:=by unfold aaP;rw[if_pos L]
  have hb:Nat.ble 7 c=true:=Nat.ble_eq_true_of_le (by omega)
  have hd:c%7=((db y+6)%7).toNat:=by omega
  rw[hb,hd]
  match m,hm with
  |0,_=>
   rw[show (((0:Nat):Int)+1)=1 from rfl,aH9,if_neg (fun z=>absurd z.1 (by decide)),if_neg (by decide),if_neg (by decide)]
   exact kc7 (T:=0) (by decide) (by first | rfl | (rw[hL];rfl))
  |1,_=>
   rw[show (((1:Nat):Int)+1)=2 from rfl,aPX,if_pos ⟨rfl,L⟩,if_pos (show (Nat.beq 1 1&&true)=true by decide),if_neg (by decide)]
   exact kc7 (T:=31) (by decide) (by first | rfl | (rw[hL];rfl))
  |2,_=>
   rw[show (((2:Nat):Int)+1)=3 from rfl,aPU,if_neg (fun z=>absurd z.1 (by decide)),if_neg (by decide),if_pos (show (Nat.ble 2 2&&true)=true by decide)]
   exact kc7 (T:=59) (by decide) (by first | rfl | (rw[hL];rfl))
  |3,_=>
   rw[show (((3:Nat):Int)+1)=4 from rfl,aIV,if_neg (fun z=>absurd z.1 (by decide)),if_neg (by decide),if_pos (show (Nat.ble 2 3&&true)=true by decide)]
   exact kc7 (T:=90) (by decide) (by first | rfl | (rw[hL];rfl))
  |4,_=>
   rw[show (((4:Nat):Int)+1)=5 from rfl,aLU,if_neg (fun z=>absurd z.1 (by decide)),if_neg (by decide),if_pos (show (Nat.ble 2 4&&true)=true by decide)]
   exact kc7 (T:=120) (by decide) (by first | rfl | (rw[hL];rfl))
  |5,_=>
   rw[show (((5:Nat):Int)+1)=6 from rfl,aOX,if_neg (fun z=>absurd z.1 (by decide)),if_neg (by decide),if_pos (show (Nat.ble 2 5&&true)=true by decide)]
   exact kc7 (T:=151) (by decide) (by first | rfl | (rw[hL];rfl))
  |6,_=>
   rw[show (((6:Nat):Int)+1)=7 from rfl,aP3,if_neg (fun z=>absurd z.1 (by decide)),if_neg (by decide),if_pos (show (Nat.ble 2 6&&true)=true by decide)]
   exact kc7 (T:=181) (by decide) (by first | rfl | (rw[hL];rfl))
  |7,_=>
   rw[show (((7:Nat):Int)+1)=8 from rfl,aQB,if_neg (fun z=>absurd z.1 (by decide)),if_neg (by decide),if_pos (show (Nat.ble 2 7&&true)=true by decide)]
   exact kc7 (T:=212) (by decide) (by first | rfl | (rw[hL];rfl))
  |8,_=>
   rw[show (((8:Nat):Int)+1)=9 from rfl,aHD,if_neg (fun z=>absurd z.1 (by decide)),if_neg (by decide),if_pos (show (Nat.ble 2 8&&true)=true by decide)]
   exact kc7 (T:=243) (by decide) (by first | rfl | (rw[hL];rfl))
  |9,_=>
   rw[show (((9:Nat):Int)+1)=10 from rfl,aI7,if_neg (fun z=>absurd z.1 (by decide)),if_neg (by decide),if_pos (show (Nat.ble 2 9&&true)=true by decide)]
   exact kc7 (T:=273) (by decide) (by first | rfl | (rw[hL];rfl))
  |10,_=>
   rw[show (((10:Nat):Int)+1)=11 from rfl,aCQ,if_neg (fun z=>absurd z.1 (by decide)),if_neg (by decide),if_pos (show (Nat.ble 2 10&&true)=true by decide)]
   exact kc7 (T:=304) (by decide) (by first | rfl | (rw[hL];rfl))
  |11,_=>
   rw[show (((11:Nat):Int)+1)=12 from rfl,aCS,if_neg (fun z=>absurd z.1 (by decide)),if_neg (by decide),if_pos (show (Nat.ble 2 11&&true)=true by decide)]
   exact kc7 (T:=334) (by decide) (by first | rfl | (rw[hL];rfl))
  |n+12,h=>exact absurd h (by omega)
 ·rw[if_neg L] at hc
  have hL:aaP y=0:=by unfold aaP;rw[if_neg L]
  have hb:Nat.ble 7 c=false:=by
   cases z:Nat.ble 7 c
   ·rfl
   ·exact absurd (dG z) (by omega)
  have hd:c%7=((db y+6)%7).toNat:=by omega
  rw[hb,hd,Bool.and_false,Bool.and_false,if_neg a9,if_neg a9,if_neg (fun z=>L z.2)]
  match m,hm with
  |0,_=>
   rw[show (((0:Nat):Int)+1)=1 from rfl,aH9]
   exact kc7 (T:=0) (by decide) (by first | rfl | (rw[hL];rfl))
  |1,_=>
   rw[show (((1:Nat):Int)+1)=2 from rfl,aPX]
   exact kc7 (T:=31) (by decide) (by first | rfl | (rw[hL];rfl))
  |2,_=>
   rw[show (((2:Nat):Int)+1)=3 from rfl,aPU]
   exact kc7 (T:=59) (by decide) (by first | rfl | (rw[hL];rfl))
  |3,_=>
   rw[show (((3:Nat):Int)+1)=4 from rfl,aIV]
   exact kc7 (T:=90) (by decide) (by first | rfl | (rw[hL];rfl))
  |4,_=>
   rw[show (((4:Nat):Int)+1)=5 from rfl,aLU]
   exact kc7 (T:=120) (by decide) (by first | rfl | (rw[hL];rfl))
  |5,_=>
   rw[show (((5:Nat):Int)+1)=6 from rfl,aOX]
   exact kc7 (T:=151) (by decide) (by first | rfl | (rw[hL];rfl))
  |6,_=>
   rw[show (((6:Nat):Int)+1)=7 from rfl,aP3]
   exact kc7 (T:=181) (by decide) (by first | rfl | (rw[hL];rfl))
  |7,_=>
   rw[show (((7:Nat):Int)+1)=8 from rfl,aQB]
   exact kc7 (T:=212) (by decide) (by first | rfl | (rw[hL];rfl))
  |8,_=>
   rw[show (((8:Nat):Int)+1)=9 from rfl,aHD]
   exact kc7 (T:=243) (by decide) (by first | rfl | (rw[hL];rfl))
  |9,_=>
   rw[show (((9:Nat):Int)+1)=10 from rfl,aI7]
   exact kc7 (T:=273) (by decide) (by first | rfl | (rw[hL];rfl))
  |10,_=>
   rw[show (((10:Nat):Int)+1)=11 from rfl,aCQ]
   exact kc7 (T:=304) (by decide) (by first | rfl | (rw[hL];rfl))
  |11,_=>
   rw[show (((11:Nat):Int)+1)=12 from rfl,aCS]
   exact kc7 (T:=334) (by decide) (by first | rfl | (rw[hL];rfl))
  |n+12,h=>exact absurd h (by omega)
noncomputable def acD(k:Int):Int:=if 83<k then 2 else k / 7+1
noncomputable def bnd(k:Int):Int:=if 83<k then 40 else 12
theorem ar0{k:Int}(h0:0<=k)(h1:k<=90):1<=acD k/\acD k<=12:=by unfold acD;split<;>omega
theorem awO{k:Int}(h0:0<=k)(h1:k<=90)(y:Int):∃j:Nat,(j:Int)<bnd k/\kindOf (y+j) (acD k)=k/\∀i:Nat,i<j->kindOf (y+i) (acD k)≠k:=by
 obtain⟨r0,_⟩:=auZ y
 have hk:k.toNat<91:=by omega
 obtain⟨j,hj,hit⟩:=aFL hk r0
 have em:acD k=(aq8 k.toNat:Nat)+1:=by
  unfold acD aq8
  by_cases c:83<k
  ·rw[if_pos c,if_pos (Nat.ble_eq_true_of_le (by omega))];rfl
  ·rw[if_neg c,if_neg (fun z=>c (by have:=dG z;omega))];omega
 have hm:aq8 k.toNat<12:=by
  have:=ar0 h0 h1
  omega
 have eb:bnd k=(aj3 k.toNat:Nat):=by
  unfold bnd aj3
  by_cases c:83<k
  ·rw[if_pos c,if_pos (Nat.ble_eq_true_of_le (by omega))];rfl
  ·rw[if_neg c,if_neg (fun z=>c (by have:=dG z;omega))];rfl
 have cn:∀a:Nat,afS a=afS (a%400):=fun a=>by
  unfold afS
  have e4:a%400%4=a%4:=by omega
  have e5:a%400%100=a%100:=by omega
  have e6:a%400%400=a%400:=by omega
  rw[e4,e5,e6]
  have:(365*a+(a+3) / 4-(a+99) / 100+(a+399) / 400+6)%7=(365*(a%400)+(a%400+3) / 4-(a%400+99) / 100+(a%400+399) / 400+6)%7:=by
   have h1:(a+3) / 4=100*(a / 400)+(a%400+3) / 4:=by omega
   have h2:(a+99) / 100=4*(a / 400)+(a%400+99) / 100:=by omega
   have h3:(a+399) / 400=a / 400+(a%400+399) / 400:=by omega
   have h4:a=400*(a / 400)+a%400:=by omega
   have hq:(a%400+99) / 100<=365*(a%400)+(a%400+3) / 4:=by omega
   rw[h1,h2,h3]
   generalize (a%400+3) / 4=q1 at hq ⊢
   generalize (a%400+99) / 100=q2 at hq ⊢
   generalize (a%400+399) / 400=q3
   omega
  rw[this]
 have ex:∃j:Nat,(j:Int)<bnd k/\kindOf (y+j) (acD k)=k:=by
  refine⟨j,by omega,?_⟩
  rw[em,awR _ hm]
  have e:((y+(j:Int))%400).toNat=((y%400).toNat+j)%400:=by omega
  rw[e,←cn,hit]
  omega
 clear hit hj
 have key:∀n:Nat,(∃j:Nat,j<n/\kindOf (y+j) (acD k)=k)->∃j:Nat,j<n/\kindOf (y+j) (acD k)=k/\∀i:Nat,i<j->kindOf (y+i) (acD k)≠k:=by
  intro n
  induction n with
  |zero=>intro ⟨j,hj,_⟩;omega
  |succ n ih=>
   intro ⟨j,hj,e⟩
   by_cases c:∃j:Nat,j<n/\kindOf (y+j) (acD k)=k
   ·obtain⟨i,hi,r⟩:=ih c
    exact⟨i,by omega,r⟩
   ·have hjn:j=n:=by
     rcases Nat.lt_or_ge j n with z | z
     ·exact absurd ⟨j,z,e⟩ c
     ·omega
    subst hjn
    exact⟨j,hj,e,fun i hi z=>c ⟨i,hi,z⟩⟩
 obtain⟨j,hj,e⟩:=ex
 obtain⟨i,hi,r⟩:=key (j+1) ⟨j,by omega,e⟩
 exact⟨i,by omega,r⟩
noncomputable def af7(M:Int):Int:=db (M / 12)+ahead (M / 12) (M%12+1)
noncomputable def an8(M:Int):Int:=aaD (M / 12) (M%12+1)
noncomputable def aeX(M:Int):Int:=kindOf (M / 12) (M%12+1)
theorem ae4(M:Int):af7 (M+1)=af7 M+an8 M:=by
 unfold af7 an8
 by_cases c:M%12=11
 ·rw[show (M+1) / 12=M / 12+1 by omega,show (M+1)%12=0 by omega,c]
  have a1:=adD (y:=M / 12) (m:=12) (by decide)
  have a2:=alJ (M / 12)
  have a3:=ajN (M / 12)
  have a4:ahead (M / 12+1) (0+1)=0:=rfl
  have e:(12:Int)+1=13:=rfl
  have e':(11:Int)+1=12:=rfl
  rw[e] at a1
  rw[a4,e']
  omega
 ·rw[show (M+1) / 12=M / 12 by omega,show (M+1)%12=M%12+1 by omega,adD (by omega)]
  omega
theorem aBU{k:Int}(h0:0<=k)(h1:k<=90)(y:Int):∃N:Int,12*y<=N/\N<12*y+480/\aeX N=k:=by
 obtain⟨j,hj,hk,_⟩:=awO h0 h1 y
 have hm:=ar0 h0 h1
 have hb:bnd k<=40:=by unfold bnd;split<;>decide
 refine⟨12*(y+j)+acD k-1,by omega,by omega,?_⟩
 unfold aeX
 rw[show (12*(y+(j:Int))+acD k-1) / 12=y+j by omega,show (12*(y+(j:Int))+acD k-1)%12+1=acD k by omega]
 exact hk
theorem asG{k:Int}(h0:0<=k)(h1:k<=90)(M:Int):∃N:Int,M+1<=N/\N<=M+491/\aeX N=k:=by
 obtain⟨N,a,b,c⟩:=aBU h0 h1 (M / 12+1)
 exact⟨N,by omega,by omega,c⟩
noncomputable def aiV(t:Int):Prop:=0<=t/\t<2^1440
noncomputable def mnN(g:Nat->Int):Nat->Int
 |0=>0
 |n+1=>Builtin.bitOr (mnN g n) (g n*2^(1440*n))
theorem asL{g:Nat->Int}:∀{n:Nat},(∀j,j<n->aiV (g j))->0<=mnN g n
 |0,_=>aV 0
 |n+1,h=>ak3 (asL fun j hj=>h j (by omega)) (Int.mul_nonneg (h n (by omega)).1 (bN (aaS _)))
theorem az5{g:Nat->Int}(i:Nat):∀{n:Nat},(∀j,j<n->aiV (g j))->tb (mnN g n) i=(decide (i / 1440<n)&&tb (g (i / 1440)) (i%1440))
 |0,_=>by
  show tb 0 i=_
  rw[abD,dU (Nat.not_lt_zero _),Bool.false_and]
 |n+1,h=>by
  have h0:∀j,j<n->aiV (g j):=fun j hj=>h j (by omega)
  have hn:=h n (by omega)
  show tb (Builtin.bitOr (mnN g n) (g n*2^(1440*n))) i=_
  rw[aq9 (asL h0) (Int.mul_nonneg hn.1 (bN (aaS _))),az5 i h0,apE hn.1]
  rcases Nat.lt_trichotomy (i / 1440) n with c | c | c
  ·rw[dQ c,dQ (show i / 1440<n+1 by omega),dU (show ¬1440*n<=i by omega),Bool.false_and,Bool.or_false]
  ·rw[dU (show ¬i / 1440<n by omega),dQ (show i / 1440<n+1 by omega),dQ (show 1440*n<=i by omega),c,show i-1440*n=i%1440 by omega]
   rfl
  ·rw[dU (show ¬i / 1440<n by omega),dU (show ¬i / 1440<n+1 by omega),ae8 hn.2 (show 1440<=i-1440*n by omega),Bool.and_false]
   rfl
structure Cal(S W:Int->Int):Prop where
 up:∀M,S M<S (M+1)
 nn:∀M,0<=W M
 bit:∀M i,tb (W M) i=true->(i:Int)<S (M+1)-S M
noncomputable def Ev(S W:Int->Int)(t:Int):Prop:=∃M:Int,S M<=t/\t<S (M+1)/\tb (W M) (t-S M).toNat=true
variable{S W:Int->Int}
theorem Cal.le(h:Cal S W)(M:Int):∀n:Nat,S M<=S (M+n)
 |0=>by simp
 |n+1=>by
  have:=h.le M n
  have:=h.up (M+n)
  rw[show M+((n+1:Nat):Int)=M+n+1 by omega]
  omega
theorem Cal.mono(h:Cal S W){M N:Int}(hl:M<=N):S M<=S N:=by
 have:=h.le M (N-M).toNat
 rw[bG (by omega),show M+(N-M)=N by omega] at this
 exact this
theorem Cal.uniq(h:Cal S W){M N t:Int}(h1:S M<=t)(h2:t<S (M+1))(h3:S N<=t)(h4:t<S (N+1)):M=N:=by
 rcases Int.lt_trichotomy M N with c | c | c
 ·have:=h.mono (show M+1<=N by omega);omega
 ·exact c
 ·have:=h.mono (show N+1<=M by omega);omega
theorem awY(h:Cal S W){M mo:Int}{l:Nat}(none:∀t,mo<=t->t<S M->¬Ev S W t)(hl:tb (W M / 2^(max (mo-S M) 0).toNat) l=true)(hj:∀j,j<l->tb (W M / 2^(max (mo-S M) 0).toNat) j=false):
  Ev S W (S M+max (mo-S M) 0+l)/\mo<=S M+max (mo-S M) 0+l/\∀t,mo<=t->t<S M+max (mo-S M) 0+l->¬Ev S W t:=by
 generalize e:max (mo-S M) 0=p at hl hj ⊢
 have hp:0<=p/\mo-S M<=p/\(p=0∨p=mo-S M):=by omega
 rw[adL (h.nn M)] at hl
 have hb:=h.bit M _ hl
 refine⟨⟨M,by omega,by omega,?_⟩,by omega,?_⟩
 ·rw[show (S M+p+(l:Int)-S M).toNat=p.toNat+l by omega]
  exact hl
 ·intro t h1 h2 hE
  rcases Int.lt_or_le t (S M) with c | c
  ·exact none t h1 c hE
  ·obtain⟨N,a1,a2,a3⟩:=hE
   obtain rfl:=h.uniq c (by omega) a1 a2
   have:=hj (t-S M-p).toNat (by omega)
   rw[adL (h.nn M),show p.toNat+(t-S M-p).toNat=(t-S M).toNat by omega,a3] at this
   cases this
theorem asR(h:Cal S W){M mo:Int}(none:∀t,mo<=t->t<S M->¬Ev S W t)(hz:W M / 2^(max (mo-S M) 0).toNat=0):∀t,mo<=t->t<S (M+1)->¬Ev S W t:=by
 intro t h1 h2 hE
 rcases Int.lt_or_le t (S M) with c | c
 ·exact none t h1 c hE
 ·obtain⟨N,a1,a2,a3⟩:=hE
  obtain rfl:=h.uniq c h2 a1 a2
  generalize e:max (mo-S M) 0=p at hz
  have hp:0<=p/\mo-S M<=p/\(p=0∨p=mo-S M):=by omega
  have z:=adL (h.nn M) p.toNat (t-S M-p).toNat
  rw[hz,abD,show p.toNat+(t-S M-p).toNat=(t-S M).toNat by omega,a3] at z
  cases z
theorem aqD{A:Int->Prop}(hA:∀M,A M->W M=0)(hk:∀M,∃N,A N/\W M=W N):∀t,¬Ev S W t:=by
 rintro t ⟨M,_,_,h⟩
 obtain⟨N,a,e⟩:=hk M
 rw[e,hA N a,abD] at h
 cases h
theorem aBQ{c d m:Int}(hc:0<=c)(hd:0<=d)(hm:0<=m)(h0:∀i,(tb c i&&tb d i)=false)(h1:∀i,(tb c i||tb d i)=tb m i):c+d=m:=by
 have ea:Builtin.bitAnd c d=0:=ac5 (aoQ hc hd) (aV 0) fun i=>by rw[akI hc hd,h0,abD]
 have eo:Builtin.bitOr c d=m:=ac5 (ak3 hc hd) hm fun i=>by rw[aq9 hc hd,h1]
 rw[←eo,bitOr_and,ea]
 omega
theorem axG{m:Int}(h:0<m):∃k,tb m k=true/\∀j,j<k->tb m j=false:=by
 have hex:∃i,tb m i=true:=by
  cases Classical.em (∃i,tb m i=true) with
  |inl z=>exact z
  |inr z=>
   have:m=0:=ac5 (by omega) (aV 0) fun i=>by
    rw[abD]
    cases e:tb m i with
    |false=>rfl
    |true=>exact absurd ⟨i,e⟩ z
   omega
 obtain⟨i,hi⟩:=hex
 have key:∀n i,i<=n->tb m i=true->∃k,tb m k=true/\∀j,j<k->tb m j=false:=by
  intro n
  induction n with
  |zero=>
   intro i hi h
   obtain rfl:i=0:=by omega
   exact⟨0,h,fun j hj=>absurd hj (Nat.not_lt_zero _)⟩
  |succ n ih=>
   intro i hi h
   cases Classical.em (∃j,j<i/\tb m j=true) with
   |inl z=>
    obtain⟨j,hj,hb⟩:=z
    exact ih j (by omega) hb
   |inr z=>
    exact⟨i,h,fun j hj=>by
     cases e:tb m j with
     |false=>rfl
     |true=>exact absurd ⟨j,hj,e⟩ z⟩
 exact key i i (aQ _) hi
theorem aCD{m:Int}(h:0<m){k:Nat}(hk:tb m k=true)(hj:∀j,j<k->tb m j=false):Builtin.bitAnd m (-m)=2^k:=by
 have hm1:0<=m-1:=by omega
 have e:Builtin.bitAnd m (-m)=m-Builtin.bitAnd m (m-1):=by
  rw[bitAnd_pn (by omega) (by omega),bitAnd_pp (by omega) hm1]
  have:Builtin.bitNot (-m)=m-1:=by unfold Builtin.bitNot;omega
  rw[this]
 obtain⟨n,rfl⟩:=cG (bN h)
 have hkn:n.testBit k=true:=hk
 have hjn:∀j,j<k->n.testBit j=false:=hj
 have em:n%2^k=0:=Nat.eq_of_testBit_eq fun i=>by
  rw[Nat.testBit_mod_two_pow,Nat.zero_testBit]
  by_cases c:i<k
  ·rw[dQ c,hjn i c];rfl
  ·rw[dU c];rfl
 have hd:n=2^k*(n / 2^k):=by
  have:=Nat.div_add_mod n (2^k)
  omega
 have ho:(n / 2^k).testBit 0=true:=by rw[Nat.testBit_div_two_pow,Nat.zero_add];exact hkn
 have ho:n / 2^k%2=1:=by
  rw[Nat.testBit_zero] at ho
  exact dP ho
 obtain⟨q,hq⟩:∃q,n / 2^k=2*q+1:=⟨n / 2^k / 2,by omega⟩
 have hp:=Nat.two_pow_pos k
 have e1:n=2^(k+1)*q+2^k:=by rw[hd,hq,Nat.mul_add,Nat.mul_one,←Nat.mul_assoc,Nat.pow_succ]
 have e2:n-1=2^(k+1)*q+(2^k-1):=by omega
 have hl:2^k-1<2^(k+1):=by rw[Nat.pow_succ];omega
 have hl2:2^k<2^(k+1):=by rw[Nat.pow_succ];omega
 have tb1:∀i,tb ((n:Int)-1) i=(if i<k+1 then (2^k-1).testBit i else q.testBit (i-(k+1))):=fun i=>by
  unfold tb
  have:((n:Int)-1).toNat=n-1:=by omega
  rw[this,e2,Nat.testBit_two_pow_mul_add _ hl]
 have tbn:∀i,tb (n:Int) i=(if i<k+1 then (2^k).testBit i else q.testBit (i-(k+1))):=fun i=>by
  unfold tb
  rw[bQ,e1,Nat.testBit_two_pow_mul_add _ hl2]
 have hz:∀i,(tb (2^k) i&&tb (Builtin.bitAnd (n:Int) ((n:Int)-1)) i)=false:=fun i=>by
  rw[asK,akI (by omega) hm1,tb1]
  by_cases c:k=i
  ·subst c
   rw[if_pos (by omega),Nat.testBit_two_pow_sub_one]
   simp
  ·rw[dU c];rfl
 have hs:=aBQ (c:=2^k) (d:=Builtin.bitAnd (n:Int) ((n:Int)-1)) (m:=(n:Int)) (bN (aaS k)) (aoQ (by omega) hm1) (by omega) hz (fun i=>by
  rw[asK,akI (by omega) hm1,tb1,tbn]
  by_cases c:i<k+1
  ·rw[if_pos c,if_pos c,Nat.testBit_two_pow_sub_one,Nat.testBit_two_pow]
   by_cases d:k=i
   ·subst d;simp
   ·rw[dU d];simp
  ·rw[if_neg c,if_neg c,dU (by omega)]
   cases q.testBit (i-(k+1))<;>rfl)
 omega
theorem ayK(k:Nat):Builtin.Int.intBits (2^k)=k+1:=by
 unfold Builtin.Int.intBits
 have h0:((2:Int)^k==0)=false:=beq_eq_false_iff_ne.mpr (Int.ne_of_gt (aaS k))
 rw[h0]
 have:((2:Int)^k).natAbs=2^k:=by rw[←aa6,Int.natAbs_natCast]
 rw[this,Nat.log2_two_pow]
 rfl
noncomputable abbrev TrX:=Int×Int×List Nat
noncomputable def TpX(H:Hp)(v:V)(z:TrX):Prop:=∃t:Addr,v=.ref t/\H t=some (.tup [.int z.1,.int z.2.1,.str (Tx z.2.2)])
noncomputable def afG(sts:List TrX)(a b:Int)(tm:List Nat):List TrX:=match sts.getLast? with
 |some s=>if s.2.2=tm then sts.dropLast++[(s.1,b,tm)] else sts++[(a,b,tm)]
 |none=>[(a,b,tm)]
theorem akS{H H':Hp}(h:∀b xs,H b=some (.tup xs)->H' b=some (.tup xs)){v:V}{s:TrX}(z:TpX H v s):TpX H' v s:=by
 obtain⟨t,e,ht⟩:=z
 exact⟨t,e,h _ _ ht⟩
theorem ahX(sts:List TrX)(s:TrX)(a b:Int)(tm:List Nat):afG (sts++[s]) a b tm=if s.2.2=tm then sts++[(s.1,b,tm)] else sts++[s]++[(a,b,tm)]:=by
 unfold afG
 simp
theorem azO{α β:Type}{F:α->β->Prop}:∀{l:List α} {v:α} {r:List β},Paired F (l++[v]) r->∃r0 s,r=r0++[s]/\Paired F l r0/\F v s
 |[],v,_,.cons h .nil=>⟨[],_,rfl,.nil,h⟩
 |x::l,v,_,.cons h t=>by
  obtain⟨r0,s,rfl,h1,h2⟩:=azO t
  exact⟨_::r0,s,rfl,.cons h h1,h2⟩
theorem aAN{α:Type}{l:List α}(h:l≠[]):∃l0 v,l=l0++[v]:=⟨l.dropLast,l.getLast h,(List.dropLast_concat_getLast h).symm⟩
theorem auJ{l:List V}{v:V}:atI (l++[v]) (-1)=some v:=ayV l v
theorem aB0{l:List V}{v:V}:ixN (l++[v]).length (-1)=some l.length:=by
 unfold ixN
 simp
 omega
theorem azT{l:List V}{v u:V}:(l++[v]).set l.length u=l++[u]:=by simp
noncomputable def dIn(m3:Int)(kd kw:Option (List Mk))(k:Int):Int:=if tb m3 (mnA k).toNat=true then abP kd kw (lnA k) (k%7) else 0
noncomputable def aaX(tm m3:Int)(kd kw:Option (List Mk))(k:Int)(j:Nat):Int:=if tb (dIn m3 kd kw k) (j+1)=true then tm else 0
noncomputable def acQ(f:Int->Nat->Int)(k:Int):List Int:=(List.range (lnA k).toNat).map (f k)
theorem aDC{c:Cs}{H:Hp}{v:V}{ko:Option (List Mk)}(h:DV c H v ko):∀ks,ko=some ks->∀k∈ks,k.ok:=fun ks e=>by
 subst e
 obtain⟨_,_,_,_,_,z⟩:=h
 exact z
theorem aD5{c:Cs}{H:Hp}{dv wv:V}{m3 k:Int}{kd kw:Option (List Mk)}(hd:DV c H dv kd)(hw:DV c H wv kw)(h0:0<=k)(h1:k<=90):0<=dIn m3 kd kw k:=by
 have ml:=(agK h0 h1).2
 unfold dIn
 split
 ·unfold abP
  split
  ·have:(0:Int)<2^(lnA k).toNat:=aaS _
   omega
  ·exact akE (b:=false) ml (aDC hw) (akE (b:=false) ml (aDC hd) (aV 0))
 ·exact aV 0
theorem aDJ{h m:Int}(h0:0<=h)(h1:h<2^24)(hm:0<=m){r:Nat}(a:tb h (r / 60)=true)(b:tb m (r%60)=true):tb (tmF h m) r=true:=by
 unfold tmF
 rw[adT (fun z hz=>by
  obtain⟨y,_,rfl⟩:=bR.mp hz
  exact Int.mul_nonneg hm (bN (aaS _))),List.any_eq_true]
 have hlt:r / 60<24:=by
  rcases Nat.lt_or_ge (r / 60) 24 with c | c
  ·exact c
  ·rw[ae8 h1 c] at a
   cases a
 refine⟨_,bR.mpr ⟨((r / 60:Nat):Int),?_,rfl⟩,?_⟩
 ·rw[ajL h0 h1,flt_mem]
  exact⟨r / 60,hlt,a,by omega⟩
 ·rw[show (60*((r / 60:Nat):Int)).toNat=60*(r / 60) by omega,apE hm,dQ (show 60*(r / 60)<=r by omega),show r-60*(r / 60)=r%60 by omega,b]
  rfl
theorem aIZ{h m:Int}(h0:0<=h)(h1:h<2^24)(hm:0<=m)(hm2:m<2^60):aiV (tmF h m):=by
 unfold tmF
 rw[ajL h0 h1]
 obtain⟨e,a,b⟩:=avI (h:=h) hm hm2 24
 rw[e]
 exact⟨a,b⟩
theorem atM(g:Int->Nat->Int)(k:Int):(acQ g k).length=(lnA k).toNat:=by unfold acQ;rw[aR,dE]
theorem aCW{g:Int->Nat->Int}{k:Int}{j:Nat}(h:j<(lnA k).toNat):(acQ g k).getD j 0=g k j:=by
 unfold acQ
 rw[List.getD_eq_getElem?_getD,bF,List.getElem?_range h]
 rfl
noncomputable def wK(g:Int->Nat->Int)(k:Int):Int:=mnN (fun j=>(acQ g k).getD j 0) (acQ g k).length
noncomputable def SM(M:Int):Int:=1440*af7 M
noncomputable def WM(g:Int->Nat->Int)(M:Int):Int:=wK g (aeX M)
noncomputable def GOk(g:Int->Nat->Int):Prop:=∀k j,aiV (g k j)
theorem aO3{g:Int->Nat->Int}(hg:GOk g){k:Int}:∀t∈acQ g k,aiV t:=fun t ht=>by
 obtain⟨j,_,rfl⟩:=bR.mp ht
 exact hg k j
theorem ayH{g:Int->Nat->Int}(hg:GOk g){k:Int}(j:Nat)(hj:j<(acQ g k).length):aiV ((acQ g k).getD j 0):=by
 rw[aCW (by rw[atM] at hj;exact hj)]
 exact hg k j
theorem akL(M:Int):0<=aeX M/\aeX M<=90:=ajP (by omega) (by omega)
theorem aB3(M:Int):lnA (aeX M)=an8 M:=(acJ (y:=M / 12) (m:=M%12+1) (by omega) (by omega)).2
theorem aoJ(M:Int):28<=an8 M/\an8 M<=31:=am6 (by omega) (by omega)
theorem az3{g:Int->Nat->Int}(hg:GOk g)(k:Int)(i:Nat):tb (wK g k) i=(decide (i / 1440<(lnA k).toNat)&&tb (g k (i / 1440)) (i%1440)):=by
 unfold wK
 rw[az5 i (fun j hj=>ayH hg j hj),atM]
 by_cases c:i / 1440<(lnA k).toNat
 ·show (_&&tb ((acQ g k).getD (i / 1440) 0) _)=_
  rw[aCW c]
 ·rw[dU c]
  rfl
theorem ay9{g:Int->Nat->Int}(hg:GOk g):Cal SM (WM g) where
 up M:=by
  unfold SM
  have:=ae4 M
  have:=aoJ M
  omega
 nn M:=asL fun j hj=>ayH hg j hj
 bit M i h:=by
  unfold WM at h
  rw[az3 hg,bJ,dR,aB3] at h
  unfold SM
  have:=ae4 M
  omega
noncomputable abbrev EvG(g:Int->Nat->Int)(t:Int):Prop:=Ev SM (WM g) t
theorem aqF{t y m k:Int}(ok:OkD y m k)(e:acI y m k=t / 1440):SM (12*y+m-1)<=t/\t<SM (12*y+m-1+1)/\(t-SM (12*y+m-1)).toNat=1440*(k-1).toNat+(t%1440).toNat/\aeX (12*y+m-1)=kindOf y m/\(k-1).toNat<(aaD y m).toNat/\(k-1).toNat+1=k.toNat:=by
 have hm:=ok.1
 have hk:=ok.2
 have e1:(12*y+m-1) / 12=y:=by omega
 have e2:(12*y+m-1)%12+1=m:=by omega
 have ek:aeX (12*y+m-1)=kindOf y m:=by unfold aeX;rw[e1,e2]
 have ed:af7 (12*y+m-1)=db y+ahead y m:=by unfold af7;rw[e1,e2]
 have el:an8 (12*y+m-1)=aaD y m:=by unfold an8;rw[e1,e2]
 have up:=ae4 (12*y+m-1)
 have e':db y+ahead y m+k-1=t / 1440:=e
 rw[ed,el] at up
 clear e e1 e2 hm ok
 unfold SM
 rw[ed,up]
 clear ed el up
 generalize db y+ahead y m=A at *
 generalize aaD y m=L at *
 refine⟨by omega,by omega,by omega,ek,by omega,by omega⟩
theorem ayR(t:Int)(n:Nat):(1440*n+(t%1440).toNat) / 1440=n/\(1440*n+(t%1440).toNat)%1440=(t%1440).toNat/\(t%1440).toNat / 60=(t%1440 / 60).toNat/\(t%1440).toNat%60=(t%1440%60).toNat:=⟨by omega,by omega,by omega,by omega⟩
theorem aC9{m0 m1 m3 t y m k:Int}{kd kw:Option (List Mk)}(hn:0<=m0/\0<=m1/\0<=m3)(hb:m1<2^24/\m0<2^60)(hg:GOk (aaX (tmF m1 m0) m3 kd kw))(ok:OkD y m k)(e:acI y m k=t / 1440)(h:shK m0 m1 m3 kd kw (t / 1440) (t%1440) y m k=.non):EvG (aaX (tmF m1 m0) m3 kd kw) t:=by
 unfold shK at h
 split at h
 ·cases h
 split at h
 ·cases h
 split at h
 ·cases h
 split at h
 ·cases h
 rename_i c1 c2 c3 c4
 have f7:=ajO ok e
 have mk:=acJ (y:=y) ok.1.1 ok.1.2
 obtain⟨a1,a2,ei,ek,a5,a6⟩:=aqF ok e
 obtain⟨u1,u2,u3,u4⟩:=ayR t (k-1).toNat
 refine⟨12*y+m-1,a1,a2,?_⟩
 unfold WM
 rw[az3 hg,ei,u1,u2,ek,mk.2,dQ a5]
 have eg:aaX (tmF m1 m0) m3 kd kw (kindOf y m) (k-1).toNat=tmF m1 m0:=by
  unfold aaX dIn
  rw[mk.1,mk.2,if_pos (acE c1),f7,a6,if_pos (acE c2)]
 rw[eg,aDJ hn.2.1 hb.1 hn.1 (by rw[u3];exact acE c3) (by rw[u4];exact acE c4)]
 rfl
theorem aDP{h m m3:Int}{kd kw:Option (List Mk)}(h0:0<=h)(h1:h<2^24)(hm:0<=m)(hm2:m<2^60):GOk (aaX (tmF h m) m3 kd kw):=fun k j=>by
 unfold aaX
 split
 ·exact aIZ h0 h1 hm hm2
 ·exact⟨aV 0,aaS _⟩
theorem atL{g:Int->Nat->Int}{M mo:Int}(hc:Cal SM (WM g))(hM:SM M<=mo)(hm:mo<SM (M+1))(h:∀t,mo<=t->t<SM (M+492)->¬EvG g t):∀t,¬EvG g t:=by
 refine aqD (A:=fun N=>M+1<=N/\N<=M+491) (fun N hN=>?_) (fun N=>?_)
 ·rcases Int.lt_or_le 0 (WM g N) with c | c
  ·obtain⟨l,hl,_⟩:=axG c
   exfalso
   have hb:=hc.bit N l hl
   have h1:=hc.mono (show M+1<=N by omega)
   have h2:=hc.mono (show N+1<=M+492 by omega)
   exact h (SM N+l) (by omega) (by omega) ⟨N,by omega,by omega,by rw[show (SM N+(l:Int)-SM N).toNat=l by omega];exact hl⟩
  ·have:=hc.nn N
   omega
 ·obtain⟨N',a,b,c⟩:=asG (akL N).1 (akL N).2 M
  exact⟨N',⟨a,b⟩,by unfold WM;rw[c]⟩
theorem az4(M:Int):∀n:Nat,SM (M+n)<=SM M+44640*n
 |0=>by simp
 |n+1=>by
  have:=az4 M n
  have:=ae4 (M+n)
  have:=aoJ (M+n)
  rw[show M+((n+1:Nat):Int)=M+n+1 by omega]
  unfold SM at *
  omega
noncomputable def lmX(sts:List TrX):Int:=match sts.getLast? with
 |some s=>if s.2.2=[109,105,110,117,116,101] then 1 else 0
 |none=>0
theorem axW(sts:List TrX):0<=lmX sts/\lmX sts<=1:=by
 unfold lmX
 split
 ·split<;>decide
 ·decide
theorem aBJ(sts:List TrX)(a b:Int)(tm:List Nat):lmX (afG sts a b tm)=if tm=[109,105,110,117,116,101] then 1 else 0:=by
 unfold afG
 split
 ·split
  ·unfold lmX;rw[dC]
  ·unfold lmX;rw[dC]
 ·rfl
theorem ar2(sts:List TrX)(a b:Int)(tm:List Nat):(afG sts a b tm).length<=sts.length+1/\(tm=[109,105,110,117,116,101]->lmX sts=1->(afG sts a b tm).length=sts.length):=by
 rcases List.eq_nil_or_concat sts with rfl | ⟨l,s,rfl⟩
 ·exact⟨aQ _,fun _ h=>by cases h⟩
 ·rw[List.concat_eq_append,ahX]
  split
  ·refine⟨by simp,fun _ _=>by simp⟩
  ·rename_i c
   refine⟨by simp,fun e h=>?_⟩
   exfalso
   unfold lmX at h
   rw[dC] at h
   by_cases z:s.2.2=[109,105,110,117,116,101]
   ·exact c (z.trans e.symm)
   ·have h:(if s.2.2=[109,105,110,117,116,101] then (1:Int) else 0)=1:=h
    rw[if_neg z] at h
    cases h
theorem azN{sts:List TrX}{a b mo la be:Int}{tm:List Nat}(h:(sts.length:Int)<=2*(mo / 60-be / 60)+lmX sts)(h1:mo<=la)(h2:tm≠[109,105,110,117,116,101]->(la+1)%60=0):((afG sts a b tm).length:Int)<=2*((la+1) / 60-be / 60)+lmX (afG sts a b tm):=by
 have l1:=axW sts
 obtain⟨n1,n2⟩:=ar2 sts a b tm
 rw[aBJ]
 by_cases c:tm=[109,105,110,117,116,101]
 ·rw[if_pos c]
  rcases (show lmX sts=0∨lmX sts=1 by omega) with z | z
  ·omega
  ·have:=n2 c z
   omega
 ·rw[if_neg c]
  have:=h2 c
  omega
theorem adQ{α β:Type}{F:α->β->Prop}:∀{l:List α} {r:List β},Paired F l r->l.length=r.length
 |_,_,.nil=>rfl
 |_,_,.cons _ t=>congrArg (·+1) (adQ t)
theorem aA8{m0 m1 m3 d r y m k:Int}{kd kw:Option (List Mk)}(h:shK m0 m1 m3 kd kw d r y m k≠ .non):∃tw,shK m0 m1 m3 kd kw d r y m k=.str (Tx tw)/\(tw≠[109,105,110,117,116,101]->tw≠[104,111,117,114]->tb m3 m.toNat=true->tb (abP kd kw (aaD y m) ((d-k+1+6)%7)) k.toNat=false):=by
 by_cases c1:tb m3 m.toNat=false
 ·exact⟨_,sh1 c1,fun _ _ z=>by rw[c1] at z;cases z⟩
 have c1:=acE c1
 by_cases c2:tb (abP kd kw (aaD y m) ((d-k+1+6)%7)) k.toNat=false
 ·exact⟨_,sh2 c1 c2,fun _ _ _=>c2⟩
 have c2:=acE c2
 by_cases c3:tb m1 (r / 60).toNat=false
 ·exact⟨_,sh3 c1 c2 c3,fun _ z=>absurd rfl z⟩
 have c3:=acE c3
 by_cases c4:tb m0 (r%60).toNat=false
 ·exact⟨_,sh4 c1 c2 c3 c4,fun z=>absurd rfl z⟩
 exact absurd (sh5 c1 c2 c3 (acE c4)) h
noncomputable def SameN(H H':Hp):Prop:=∀b o,(∀ps,o≠ .tbl ps)->H b=some o->H' b=some o
theorem abB{H H':Hp}(s:Same H H'):SameN H H':=fun b o _ h=>s b o h
theorem SameN.trans{H H1 H2:Hp}(a:SameN H H1)(b:SameN H1 H2):SameN H H2:=fun c o n h=>b c o n (a c o n h)
theorem aq3{c:Cs}{H H':Hp}(s:SameN H H'){v:V}:∀{ko:Option (List Mk)},DV c H v ko->DV c H' v ko
 |none,h=>h
 |some _,⟨p,qs,e,h1,h2,h3⟩=>⟨p,qs,e,s _ _ (fun _ z=>by cases z) h1,Paired.imp' (fun x k z=>by cases k<;>(obtain⟨dx,z⟩:=z;exact⟨dx,s _ _ (fun _ z=>by cases z) z⟩)) h2,h3⟩
noncomputable def RowR(c:Cs)(CR:Addr)(H:Hp)(p:Addr)(m0 m1 m3:Int)(kd kw:Option (List Mk)):Prop:=∃(dx:Addr) (dv wv:V),H p=some (.ins CR dx (abT m0 m1 dv m3 wv (tmF m1 m0)))/\(0<=m0/\0<=m1/\0<=m3)/\(m1<2^24/\m0<2^60)/\DV c H dv kd/\DV c H wv kw
theorem RowR.keepN{c:Cs}{CR:Addr}{H H':Hp}{p:Addr}{m0 m1 m3:Int}{kd kw:Option (List Mk)}(s:SameN H H')(h:RowR c CR H p m0 m1 m3 kd kw):RowR c CR H' p m0 m1 m3 kd kw:=by
 obtain⟨dx,dv,wv,hp,hn,hb,hd,hw⟩:=h
 exact⟨dx,dv,wv,s _ _ (fun _ z=>by cases z) hp,hn,hb,aq3 s hd,aq3 s hw⟩
theorem RowR.ok{c:Cs}{CR:Addr}{H:Hp}{p:Addr}{m0 m1 m3:Int}{kd kw:Option (List Mk)}(h:RowR c CR H p m0 m1 m3 kd kw):GOk (aaX (tmF m1 m0) m3 kd kw):=by
 obtain⟨dx,dv,wv,hp,hn,hb,hd,hw⟩:=h
 exact aDP hn.2.1 hb.1 hn.1 hb.2
noncomputable def asM(P:Program)(w:World)(K:FG)(mg:Str->Option Value)(base:Heap)(n:Nat)(H:Hp)(f:Addr)(g:Int->Nat->Int):Prop:=
 FnHO H f/\∀(H1:Hp) (kd:Int) (Q:VK),Same H H1->0<=kd->kd<=90->(∀D H2,Same H1 H2->H2 D=some (.lst ((acQ g kd).map V.int))->Q (.ref D) H2)->Calls P w K mg base n f [.int kd] H1 Q
theorem av6{H H1:Hp}{f:Addr}(s:Same H H1)(h:FnHO H f):FnHO H1 f:=by
 obtain⟨oc,od,fd,sl,e⟩:=h
 exact⟨oc,od,fd,sl,s _ _ e⟩
noncomputable def ayW(g:Int->Nat->Int)(kvs:List (Key×V)):Prop:=∀(k:Int) (v:V),acW kvs (.inl k)=some v->v=.int (wK g k)
theorem aDL{g:Int->Nat->Int}{kvs:List (Key×V)}(h:ayW g kvs)(k:Int):ayW g (agC kvs (.inl k) (.int (wK g k))):=fun j v e=>by
 rw[aq7] at e
 by_cases c:(Sum.inl j:Key)=.inl k
 ·rw[if_pos c] at e
  cases c
  exact (a8 e).symm
 ·rw[if_neg c] at e
  exact h j v e
theorem aEK(x:Int):(if 0>x then 0 else x)=max x 0:=by split<;>omega
theorem aNG(g:Int->Nat->Int){k:Int}(h0:0<=k)(h1:k<=90):(acQ g k).length<=31:=by
 rw[atM]
 have:=(agK h0 h1).2.1
 omega
noncomputable def lamQ(x:Str):Str:=x++".<locals>."++"<lambda>"
noncomputable def arG(H:Hp)(Pt:Addr)(lp:Pos)(q:Str):Prop:=H Pt=some (.tbl #[])∨∃c0,H Pt=some (.tbl #[rawInt lp.line,rawInt lp.col,.ref c0])/\H c0=some (apU c0 q)
theorem awP(lp:Pos)(c0:Addr):codeAmong lp [rawInt lp.line,rawInt lp.col,.ref c0]=some (.ref c0):=by simp[codeAmong,rawInt]
theorem aqS{H H':Hp}{Pt:Addr}{lp:Pos}{q:Str}(s:Same H H')(h:arG H Pt lp q):arG H' Pt lp q:=by
 rcases h with h | ⟨c0,h,hc⟩
 ·exact .inl (s _ _ h)
 ·exact .inr ⟨c0,s _ _ h,s _ _ hc⟩
theorem akC{HL H':Hp}{a:Addr}{x:HO}(ha:HL a=none)(s':Same (upd HL a x) H'):Same HL (era H' a):=fun b o hb=>by
 have nb:b≠a:=fun z=>by rw[z,ha] at hb;cases hb
 rw[abN nb]
 exact s' _ _ (by rw[aaF nb];exact hb)
noncomputable def ayA(H:Hp)(l:Addr):Prop:=∀o,(∀ps,o≠ .tbl ps)->H l≠some o
theorem ap6{H H':Hp}{l:Addr}(s:SameN H H')(h:H' l=none):ayA H l:=fun o n e=>by
 rw[s _ _ n e] at h
 cases h
noncomputable def aD6(H HL:Hp)(f:Addr)(qual:Str)(params:Arguments)(body:Expr)(scope:Scope)(a:Addr)(pm:Value)(tN:Addr)(pN:Pos)(qN:Str):Prop:=
 H f=none/\SameN H HL/\(∃c' ctv,HL f=some (ab9 f (av0 qual params body scope "row" a pm c' ctv))/\HL c'=some (apU c' qual))/\arG HL tN pN qN
theorem am8{H H':Hp}{bm:Addr}(s:SameN H H')(h:awW H bm):awW H' bm:=by
 obtain⟨ob,u,e,r⟩:=h
 exact⟨ob,u,s _ _ (fun _ z=>by cases z) e,r⟩
theorem avU{H:Hp}{qual:Str}{params:Arguments}{body:Expr}{scope:Scope}{a tN bm:Addr}{pm:Value}{pN:Pos}{Q:VK}(h1:arG H tN pN qual)(hbm:awW H bm)(h:∀f HL,aD6 H HL f qual params body scope a pm tN pN qual->Q (.ref f) HL){σ:L2.St}:aGO tN bm pN qual params body scope "row" a pm σ H Q:=by
 have oth:∀{b:Addr} {o:HO},H b=some o->(∀ps,o≠ .tbl ps)->b≠tN:=fun hb n z=>by
  rcases h1 with e | ⟨c0,e,_⟩<;>(rw[z,e] at hb;exact n _ (a8 hb).symm)
 rcases h1 with e | ⟨c0,e,hc⟩
 ·refine⟨hbm,#[],e,True.intro,.inl ⟨rfl,fun f c' ctv hf hc' hcf=>h f _ ⟨hf,fun b o n hb=>?_,⟨c',ctv,aaA,?_⟩,?_⟩⟩⟩
  ·rw[aaF (fun z=>by rw[z,hf] at hb;cases hb),aaF (fun z=>by rw[z,hc'] at hb;cases hb),aaF (oth hb n)]
   exact hb
  ·rw[aaF hcf,aaA]
  ·refine .inr ⟨c',?_,by rw[aaF hcf,aaA]⟩
   rw[aaF (fun z=>by rw[z,hf] at e;cases e),aaF (fun z=>by rw[z,hc'] at e;cases e),aaA]
   rfl
 ·refine⟨hbm,_,e,(by simp[TriplesOk,rawInt]),.inr ⟨c0,awP pN c0,hc,fun f ctv hf=>h f _ ⟨hf,abB (aaB hf _),⟨c0,ctv,aaA,aaB hf _ _ _ hc⟩,aqS (aaB hf _) (.inr ⟨c0,e,hc⟩)⟩⟩⟩
noncomputable def amK(H:Hp)(tN bm:Addr):Prop:=arG H tN ⟨208,21,208,51⟩ (lamQ "next_from")/\awW H bm
theorem ae3{H H':Hp}{tN bm:Addr}(s:Same H H')(h:amK H tN bm):amK H' tN bm:=⟨aqS s h.1,am8 (abB s) h.2⟩
theorem avR:∀m∈aq4,∀l∈ls4,∀f∈fs7,wkD m l f<2^(l.toNat+1):=by decide +kernel
theorem anA:∀l∈ls4,∀f∈fs7,∀d∈apG,d<=l->nw d l f<=l:=by decide +kernel
theorem adC{a n:Nat}(h:a<n):(1:Int)*2^a<2^n:=by
 have e:(2:Int)^n=2^a*2^(n-a):=by rw[←Int.pow_add,show a+(n-a)=n by omega]
 have p:=aaS a
 have q:(2:Int)<=2^(n-a):=by
  obtain⟨k,hk⟩:∃k,n-a=k+1:=⟨n-a-1,by omega⟩
  rw[hk,Int.pow_succ]
  have:=aaS k
  omega
 rw[e,Int.one_mul]
 have:(2:Int)^a*1<2^a*2^(n-a):=Int.mul_lt_mul_of_pos_left (by omega) p
 omega
theorem aFG{k:Mk}{l f:Int}(hk:k.ok)(h:Lf l f):k.due l f<2^(l.toNat+1):=by
 have hl:=h.1
 have p:=aaS (l.toNat+1)
 cases k with
 |num m=>
  show avM m l<_
  rw[(as6 hk h.1).1]
  have e:=au1 (n:=l.toNat+1) 0 (as6 hk h.1).2.2.1 (fun d hd=>by have:=(aoP m l.toNat).2.2 d hd;omega) (by omega)
  have e1:(2:Int)^0=1:=rfl
  omega
 |lst b=>
  show (if l<=b then (0:Int) else 1*2^(l-b).toNat)<_
  have hb:=hk.1
  split
  ·exact p
  ·exact adC (by omega)
 |nea d=>
  show (if l<d then (0:Int) else 1*2^(nw d l f).toNat)<_
  split
  ·exact p
  ·have:=anA l (atA hl.1 hl.2) f (al2 h.2.1 h.2.2) d (aF7 hk.1 hk.2) (by omega)
   exact adC (by omega)
 |wrk=>
  have:=anA l (atA hl.1 hl.2) f (al2 h.2.1 h.2.2) l (aF7 (by omega) hl.2) (aV _)
  exact adC (by omega)
 |wkd m=>exact avR m (aF6 hk.1 hk.2) l (atA hl.1 hl.2) f (al2 h.2.1 h.2.2)
 |nth w m=>
  show (if l<adM w m f then (0:Int) else 1*2^(adM w m f).toNat)<_
  split
  ·exact p
  ·exact adC (by omega)
 |one w=>
  have:ae5 w l f<=l:=by
   unfold ae5
   have:=bW ((f+l-1)%7-w) (show (7:Int)≠0 by decide)
   omega
  exact adC (by omega)
 |nil=>exact p
theorem azI{ko:Option (List Mk)}{a l f:Int}(h:Lf l f)(o:∀ks,ko=some ks->∀k∈ks,k.ok)(ha:0<=a)(ha2:a<2^(l.toNat+1)):orO ko a l f<2^(l.toNat+1):=by
 cases ko with
 |none=>exact ha2
 |some ks=>exact aH2 ha (ayL h (o ks rfl)) ha2 (ayZ fun m hm=>by
   obtain⟨k,hk,rfl⟩:=bR.mp hm
   exact⟨ayJ (o ks rfl k hk) h,aFG (o ks rfl k hk) h⟩)
theorem ay2{kd kw:Option (List Mk)}{l f:Int}(h:Lf l f)(od:∀ks,kd=some ks->∀k∈ks,k.ok)(ow:∀ks,kw=some ks->∀k∈ks,k.ok):abP kd kw l f<2^(l.toNat+1):=by
 have p:=aaS (l.toNat+1)
 unfold abP
 split
 ·rw[Int.pow_succ]
  omega
 ·exact azI h ow (akE (b:=false) h od (aV 0)) (azI h od (aV 0) p)
noncomputable def aeD(m0 m1 m3:Int)(kd kw:Option (List Mk))(t:Int)(v:V):Prop:=∀y m k:Int,OkD y m k->acI y m k=t / 1440->shK m0 m1 m3 kd kw (t / 1440) (t%1440) y m k=v
noncomputable def atZ(m3:Int)(kd kw:Option (List Mk))(d:Int)(tw:List Nat):Prop:=∀y m k:Int,OkD y m k->acI y m k=d->(tw=[109,111,110,116,104]/\tb m3 m.toNat=false)∨(tw=[100,97,121]/\tb m3 m.toNat=true/\tb (abP kd kw (aaD y m) ((d-k+1+6)%7)) k.toNat=false)
theorem aFS{m0 m1 m3 t:Int}{kd kw:Option (List Mk)}{tw:List Nat}(h:atZ m3 kd kw (t / 1440) tw):aeD m0 m1 m3 kd kw t (.str (Tx tw)):=fun y m k ok e=>by
 rcases h y m k ok e with ⟨rfl,z⟩ | ⟨rfl,z,z2⟩
 ·exact sh1 z
 ·exact sh2 z z2
theorem aa1{a b:List Nat}(h:V.str (Tx a)=V.str (Tx b)):a=b:=Tx_inj.mp (by injection h)
theorem aDO{m0 m1 m3 t:Int}{kd kw:Option (List Mk)}{tw:List Nat}(h:aeD m0 m1 m3 kd kw t (.str (Tx tw)))(n1:tw≠[109,105,110,117,116,101])(n2:tw≠[104,111,117,114]):atZ m3 kd kw (t / 1440) tw:=fun y m k ok e=>by
 have z:=h y m k ok e
 by_cases c1:tb m3 m.toNat=false
 ·rw[sh1 c1] at z
  exact .inl ⟨(aa1 z).symm,c1⟩
 have c1:=acE c1
 by_cases c2:tb (abP kd kw (aaD y m) ((t / 1440-k+1+6)%7)) k.toNat=false
 ·rw[sh2 c1 c2] at z
  exact .inr ⟨(aa1 z).symm,c1,c2⟩
 have c2:=acE c2
 by_cases c3:tb m1 (t%1440 / 60).toNat=false
 ·rw[sh3 c1 c2 c3] at z
  exact absurd (aa1 z).symm n2
 have c3:=acE c3
 by_cases c4:tb m0 (t%1440%60).toNat=false
 ·rw[sh4 c1 c2 c3 c4] at z
  exact absurd (aa1 z).symm n1
 rw[sh5 c1 c2 c3 (acE c4)] at z
 cases z
theorem aAQ{m0 m1 m3 t u:Int}{kd kw:Option (List Mk)}(h:aeD m0 m1 m3 kd kw t (.str (Tx [104,111,117,114])))(e1:u / 1440=t / 1440)(e2:u%1440 / 60=t%1440 / 60):aeD m0 m1 m3 kd kw u (.str (Tx [104,111,117,114])):=fun y m k ok e=>by
 rw[e1] at e ⊢
 have z:=h y m k ok e
 by_cases c1:tb m3 m.toNat=false
 ·rw[sh1 c1] at z
  exact absurd (aa1 z) (by decide)
 have c1:=acE c1
 by_cases c2:tb (abP kd kw (aaD y m) ((t / 1440-k+1+6)%7)) k.toNat=false
 ·rw[sh2 c1 c2] at z
  exact absurd (aa1 z) (by decide)
 have c2:=acE c2
 by_cases c3:tb m1 (t%1440 / 60).toNat=false
 ·exact sh3 c1 c2 (by rw[e2];exact c3)
 have c3:=acE c3
 by_cases c4:tb m0 (t%1440%60).toNat=false
 ·rw[sh4 c1 c2 c3 c4] at z
  exact absurd (aa1 z) (by decide)
 rw[sh5 c1 c2 c3 (acE c4)] at z
 cases z
theorem aB2{h m:Int}(h0:0<=h)(h1:h<2^24)(hm:0<=m)(hm2:m<2^60){r:Nat}(e:tb (tmF h m) r=true):tb h (r / 60)=true/\tb m (r%60)=true:=by
 unfold tmF at e
 rw[adT (fun z hz=>by
  obtain⟨y,_,rfl⟩:=bR.mp hz
  exact Int.mul_nonneg hm (bN (aaS _))),List.any_eq_true] at e
 obtain⟨_,hz,e⟩:=e
 obtain⟨y,hy,rfl⟩:=bR.mp hz
 rw[ajL h0 h1,flt_mem] at hy
 obtain⟨i,hi,hb,rfl⟩:=hy
 rw[show (60*(0+(i:Int))).toNat=60*i by omega,apE hm,bJ,dR] at e
 have hlt:r-60*i<60:=by
  rcases Nat.lt_or_ge (r-60*i) 60 with c | c
  ·exact c
  ·rw[ae8 hm2 c] at e
   cases e.2
 rw[show r / 60=i by omega,show r%60=r-60*i by omega]
 exact⟨hb,e.2⟩
theorem aQS{m0 m1 m3 t:Int}{kd kw:Option (List Mk)}(hn:0<=m0/\0<=m1/\0<=m3)(hb:m1<2^24/\m0<2^60)(hg:GOk (aaX (tmF m1 m0) m3 kd kw))(h:EvG (aaX (tmF m1 m0) m3 kd kw) t):aeD m0 m1 m3 kd kw t .non:=fun y m k ok e=>by
 obtain⟨M,a1,a2,a3⟩:=h
 have f7:=ajO ok e
 have mk:=acJ (y:=y) ok.1.1 ok.1.2
 obtain⟨b1,b2,ei,ek,_,a6⟩:=aqF ok e
 obtain⟨u1,u2,u3,u4⟩:=ayR t (k-1).toNat
 obtain rfl:12*y+m-1=M:=(ay9 hg).uniq (t:=t) b1 b2 a1 a2
 unfold WM at a3
 rw[az3 hg,ei,u1,u2,ek,bJ] at a3
 have a3:=a3.2
 unfold aaX at a3
 split at a3
 ·rename_i c
  unfold dIn at c
  rw[mk.1,mk.2,f7,a6] at c
  split at c
  ·rename_i c1
   obtain⟨z1,z2⟩:=aB2 hn.2.1 hb.1 hn.1 hb.2 a3
   exact sh5 c1 c (by rw[←u3];exact z1) (by rw[←u4];exact z2)
  ·rw[abD] at c
   cases c
 ·rw[abD] at a3
  cases a3
noncomputable def axU(m0 m1 m3:Int)(kd kw:Option (List Mk))(b e:Int)(s:TrX):Prop:=b<=s.1/\s.1<=s.2.1/\s.2.1<=e/\∀t,s.1<=t->t<=s.2.1->aeD m0 m1 m3 kd kw t (.str (Tx s.2.2))
theorem aEF{m0 m1 m3 b mo la:Int}{kd kw:Option (List Mk)}{sts:List TrX}{tw:List Nat}(h:∀s∈sts,axU m0 m1 m3 kd kw b (mo-1) s)(hl:∀s,sts.getLast? =some s->s.2.1+1=mo)(hb:b<=mo)(h1:mo<=la)(hw:∀t,mo<=t->t<=la->aeD m0 m1 m3 kd kw t (.str (Tx tw))):
  (∀s∈afG sts mo la tw,axU m0 m1 m3 kd kw b la s)/\∀s,(afG sts mo la tw).getLast? =some s->s.2.1+1=la+1:=by
 have old:∀s∈sts,axU m0 m1 m3 kd kw b la s:=fun s hs=>by
  obtain⟨a1,a2,a3,a4⟩:=h s hs
  exact⟨a1,a2,by omega,a4⟩
 rcases List.eq_nil_or_concat sts with rfl | ⟨l,s,rfl⟩
 ·refine⟨fun s hs=>?_,fun s hs=>?_⟩
  ·rw[bI.mp (show s∈[((mo,la,tw):TrX)] from hs)]
   exact⟨hb,h1,aV _,hw⟩
  ·obtain rfl:((mo,la,tw):TrX)=s:=a8 hs
   rfl
 ·rw[List.concat_eq_append] at *
  have hs0:=h s (bP _ (bI.mpr rfl))
  have he:=hl s (by rw[dC])
  rw[ahX]
  split
  ·rename_i c
   refine⟨fun z hz=>?_,fun z hz=>?_⟩
   ·rcases bH.mp hz with q | q
    ·exact old z (List.mem_append_left _ q)
    ·rw[bI.mp q]
     refine⟨hs0.1,by show s.1<=la;have:=hs0.2.1;omega,aV _,fun t t1 t2=>?_⟩
     rcases Int.lt_or_le t mo with w | w
     ·show aeD m0 m1 m3 kd kw t (.str (Tx tw))
      rw[←c]
      exact hs0.2.2.2 t t1 (by omega)
     ·exact hw t w t2
   ·rw[dC] at hz
    obtain rfl:=a8 hz
    rfl
  ·refine⟨fun z hz=>?_,fun z hz=>?_⟩
   ·rcases bH.mp hz with q | q
    ·exact old z q
    ·rw[bI.mp q]
     exact⟨hb,h1,aV _,hw⟩
   ·rw[dC] at hz
    obtain rfl:=a8 hz
    rfl
theorem auC:∀n:Nat,n<100->∀c∈num n,c<128:=by decide +kernel
theorem acB{l:List Nat}(h:l.all (fun c=>decide (c<128))=true):Asc l:=fun c hc=>dP (bV.mp h c hc)
theorem abM{a b:List Nat}(h1:Asc a)(h2:Asc b):Asc (a++b):=fun c h=>(bH.mp h).elim (h1 c) (h2 c)
theorem aiG{α β:Type}{F:α->β->Prop}:∀(j:Nat) {l:List α} {r:List β},Paired F l r->Paired F (l.drop j) (r.drop j)
 |0,_,_,h=>h
 |_+1,_,_,.nil=>.nil
 |j+1,_,_,.cons _ t=>aiG j t
theorem aiA{α β:Type}{F:α->β->Prop}:∀(j:Nat) {l:List α} {r:List β},Paired F l r->Paired F (l.take j) (r.take j)
 |0,_,_,_=>.nil
 |_+1,_,_,.nil=>.nil
 |j+1,_,_,.cons h t=>.cons h (aiA j t)
theorem aqW{ds ss:List Int}(h:Digs ds ss)(j n:Nat):Digs ((ds.drop j).take n) ((ss.drop j).take n):=aiA n (aiG j h)
theorem abR{ds ss:List Int}:∀{i:Nat} {z:Int},Digs ds ss->ss[i]? =some z->∃d,ds[i]? =some d/\0<=d/\d<z:=by
 induction ds generalizing ss with
 |nil=>intro i z h e;cases h;cases e
 |cons d ds ih=>
  intro i z h e
  cases h with
  |cons r t=>
   cases i with
   |zero=>cases e;exact⟨d,rfl,r⟩
   |succ i=>exact ih t e
theorem ab1{ds:List Int}{i:Nat}{d:Int}(e:ds[i]? =some d):atI (ds.map V.int) (i:Int)=some (.int d):=ae6 (by rw[bF,e];rfl)
theorem ayE{ds:List Int}{j n:Nat}(h:j+n<=ds.length){a b:Int}(ea:a=j)(eb:b=j+n):aaV (ds.map V.int) (some a) (some b)=((ds.drop j).take n).map V.int:=by
 subst ea
 rw[show b=((j+n:Nat):Int) by omega]
 unfold aaV
 rw[HT.sIx_nat,HT.sIx_nat,aR,Nat.min_eq_left h,Nat.min_eq_left (show j<=ds.length by omega),←List.map_drop,←List.map_take,show j+n-j=n by omega]
theorem ayO{ds ss:List Int}(hd:Digs ds ss){j:Nat}{s0 s1 s2 s3:Int}(e:(ss.drop j).take 4=[s0,s1,s2,s3]){a b:Int}(ea:a=j)(eb:b=j+4):∃w1 w2 w3 w4:Int,aaV (ds.map V.int) (some a) (some b)=[.int w1,.int w2,.int w3,.int w4]/\(0<=w2/\w2<s1):=by
 have hl:=hd.len
 have h4:=congrArg List.length e
 rw[cL,c6] at h4
 have h4:min 4 (ss.length-j)=4:=h4
 obtain⟨w1,w2,w3,w4,ew,_,k,_⟩:=Digs.four (e▸aqW hd j 4)
 exact⟨w1,w2,w3,w4,by rw[ayE (n:=4) (by omega) ea eb,ew];rfl,k⟩
theorem asB{ds ss:List Int}(hd:Digs ds ss){j:Nat}{s0 s1 s2 s3 s4:Int}(e:(ss.drop j).take 5=[s0,s1,s2,s3,s4]){a b:Int}(ea:a=j)(eb:b=j+5):∃w1 w2 w3 w4 w5:Int,aaV (ds.map V.int) (some a) (some b)=[.int w1,.int w2,.int w3,.int w4,.int w5]/\(0<=w3/\w3<s2):=by
 have hl:=hd.len
 have h4:=congrArg List.length e
 rw[cL,c6] at h4
 have h4:min 5 (ss.length-j)=5:=h4
 obtain⟨w1,w2,w3,w4,w5,ew,_,_,k,_⟩:=Digs.five (e▸aqW hd j 5)
 exact⟨w1,w2,w3,w4,w5,by rw[ayE (n:=5) (by omega) ea eb,ew];rfl,k⟩
theorem apV{b:Bool}{ws:List (List Nat)}{ks:List Mk}(h:Ws b ws ks)(hne:ws≠[])(hn:ws.length<=20)(ho:∀k∈ks,k.sp=true/\k.wk=b/\k.ok):∃ko,DT b (aaY 44 ws) ko:=by
 by_cases c:aaY 44 ws=[42]
 ·rw[c]
  exact⟨none,adK b⟩
 ·have w:=aC7 h hne hn
  exact⟨some ks,⟨ahP (by decide) fun x hx=>(h.cl x hx).1.2,auU hne (fun x hx=>(h.cl x hx).2.1) 44⟩,w.2,c,ho,az0 h w.1⟩
theorem alG{z:Int}(h0:0<=z)(h1:z<=99):z.toNat<10^500/\[V.int z]=[V.int (z.toNat:Nat)]/\(num z.toNat).length<=2/\Asc (num z.toNat):=⟨aY (show z.toNat<100 by omega) (by decide +kernel),by rw[bG h0],(af6 _ (by omega)).2.2.2,auC _ (by omega)⟩
noncomputable def OkM(b:Bool)(k:Mk):Prop:=k.sp=true/\k.wk=b/\k.ok
noncomputable def WdD(b:Bool)(c:Int)(bm:Bool)(p T S:Addr)(i:Nat)(w1 w2 w3 w4 w5:Int)(u0:Addr)(H2:Hp)(σ':L2.St)(H':Hp):Prop:=∃(tw':List Nat) (k':Mk) (mk:Addr),σ'=[some (.int c),some (.bl bm),some (.ref p),some (.ref T),some (.ref S),some (.int (0+(i:Int))),some (.int w1),some (.int w2),some (.int w3),some (.int w4),some (.int w5),some (.str (Tx tw')),some (.ref u0),some (.ref mk)]/\Same H2 H'/\(Cl tw'/\SpT b tw' k')/\OkM b k'/\Asc tw'
noncomputable def InD(b:Bool)(c:Int)(bm:Bool)(p T S:Addr)(H3:Hp)(i:Nat)(σ:L2.St)(H2:Hp):Prop:=∃(v5 v6 v7 v8 v9 v10 v11 v12 v13:Option V) (ws:List (List Nat)) (us:List Addr) (ks:List Mk),σ=[some (.int c),some (.bl bm),some (.ref p),some (.ref T),some (.ref S),v5,v6,v7,v8,v9,v10,v11,v12,v13]/\Same H3 H2/\H2 T=some (.lst (ws.map fun x=>V.str (Tx x)))/\H2 S=some (.lst (us.map V.ref))/\Ws b ws ks/\(∀k∈ks,OkM b k)/\(∀w∈ws,Asc w)/\ws.length=i/\us.length=i
theorem aBD(w:Int):(1+w%30).toNat<10^500/\[V.int (1+w%30)]=[V.int ((1+w%30).toNat:Nat)]/\2+(num (1+w%30).toNat).length<=sizeLine/\(Cl ([76,45]++num (1+w%30).toNat)/\SpT false ([76,45]++num (1+w%30).toNat) (.lst (1+w%30)))/\OkM false (.lst (1+w%30))/\Asc ([76,45]++num (1+w%30).toNat):=by
 obtain⟨a,b,c,d⟩:=alG (z:=1+w%30) (by omega) (by omega)
 have z:=aEW (1+w%30).toNat (by omega) (by omega)
 rw[bG (by omega)] at z
 exact⟨a,b,by rw[dN];omega,⟨z.2,z.1⟩,⟨rfl,rfl,by omega,by omega⟩,abM (acB rfl) d⟩
theorem aB8{w:Int}(h0:0<=w)(h1:w<31):(1+w).toNat<10^500/\[V.int (1+w)]=[V.int ((1+w).toNat:Nat)]/\(num (1+w).toNat).length+1<=sizeLine/\(Cl (num (1+w).toNat++[87])/\SpT false (num (1+w).toNat++[87]) (.nea (1+w)))/\OkM false (.nea (1+w))/\Asc (num (1+w).toNat++[87]):=by
 obtain⟨a,b,c,d⟩:=alG (z:=1+w) (by omega) (by omega)
 have z:=aDX (1+w).toNat (by omega) (by omega)
 rw[bG (by omega)] at z
 exact⟨a,b,by rw[dN];omega,⟨z.2,z.1⟩,⟨rfl,rfl,by omega,by omega⟩,abM d (acB rfl)⟩
theorem aFK{w v:Int}(h0:0<=w)(h1:w<8):(w.toNat<10^500/\[V.int w]=[V.int (w.toNat:Nat)]/\(num w.toNat).length+1<=sizeLine)/\((1+v%5).toNat<10^500/\[V.int (1+v%5)]=[V.int ((1+v%5).toNat:Nat)]/\(num w.toNat++[35]).length+(num (1+v%5).toNat).length<=sizeLine)/\(Cl (num w.toNat++[35]++num (1+v%5).toNat)/\SpT true (num w.toNat++[35]++num (1+v%5).toNat) (.nth (w%7) (1+v%5)))/\OkM true (.nth (w%7) (1+v%5))/\Asc (num w.toNat++[35]++num (1+v%5).toNat):=by
 obtain⟨a,b,c,d⟩:=alG (z:=w) (by omega) (by omega)
 obtain⟨a',b',c',d'⟩:=alG (z:=1+v%5) (by omega) (by omega)
 have z:=aCX w.toNat (by omega) (1+v%5).toNat (by omega) (by omega)
 rw[bG (by omega),bG (by omega)] at z
 exact⟨⟨a,b,by rw[dN];omega⟩,⟨a',b',by rw[dN,aU];show _+1+_<=_;omega⟩,⟨z.2,z.1⟩,⟨rfl,rfl,⟨by omega,by omega⟩,by omega,by omega⟩,abM (abM d (acB rfl)) d'⟩
theorem aFF{w:Int}(h0:0<=w)(h1:w<8):w.toNat<10^500/\[V.int w]=[V.int (w.toNat:Nat)]/\(num w.toNat).length+1<=sizeLine/\(Cl (num w.toNat++[76])/\SpT true (num w.toNat++[76]) (.one (w%7)))/\OkM true (.one (w%7))/\Asc (num w.toNat++[76]):=by
 obtain⟨a,b,c,d⟩:=alG (z:=w) (by omega) (by omega)
 have z:=aGQ w.toNat (by omega)
 rw[bG (by omega)] at z
 exact⟨a,b,by rw[dN];omega,⟨z.2,z.1⟩,⟨rfl,rfl,by omega,by omega⟩,abM d (acB rfl)⟩
theorem ayX:FT 1 12 [50] (aaN [2]):=by
 have h:FT 1 12 (aaY 44 [num (2:Int).toNat]) (aaN [[2]].flatten):=ad9 (.cons (i1 (a:=2) (by decide) (by decide) (by decide) (by decide)) .nil) (cM _ _) (by decide)
 have e:aaY 44 [num (2:Int).toNat]=[50]:=by decide +kernel
 rw[e] at h
 exact h
theorem aOH:∃ko,DT false [50,57] ko:=by
 have it:=i1 (lo:=1) (hi:=31) (a:=29) (by decide) (by decide) (by decide) (by decide)
 have hp:=ahE (ns:=[29]) (cM _ _) (fun n hn=>by rw[bI.mp hn];decide)
 have w:Ws false [num (29:Int).toNat] [.num (aaN [29])]:=.cons ⟨it.2.1,rfl,it.1,hp⟩ .nil
 obtain⟨ko,h⟩:=apV w (cM _ _) (by decide) (fun k hk=>by rw[bI.mp hk];exact⟨rfl,rfl,bN hp⟩)
 have e:aaY 44 [num (29:Int).toNat]=[50,57]:=by decide +kernel
 rw[e] at h
 exact⟨ko,h⟩
theorem aBB{d:Int}(h0:0<=d)(h1:d<8):∃ko,DT true (num d.toNat++[35,53]) ko:=by
 have z:=aCX d.toNat (by omega) 5 (by decide) (by decide)
 have e:num d.toNat++[35]++num 5=num d.toNat++[35,53]:=by rw[List.append_assoc];rfl
 rw[e] at z
 have w:Ws true [num d.toNat++[35,53]] [.nth ((d.toNat:Int)%7) (5:Nat)]:=.cons ⟨z.2,z.1⟩ .nil
 exact apV w (cM _ _) (by show 1<=20;decide) (fun k hk=>by rw[bI.mp hk];exact⟨rfl,rfl,⟨by omega,by omega⟩,by decide,by decide⟩)
noncomputable def azL(t:Int):Prop:=∃y m k:Int,OkD y m k/\acI y m k=t / 1440
noncomputable def hdW(l:List TrX):Option (List Nat):=l.head?.map (·.2.2)
noncomputable def Cov(m0 m1 m3:Int)(kd kw:Option (List Mk)):Int->List TrX->Int->Prop
 |b,[],mo=>mo=b
 |b,s::r,mo=>s.1=b/\s.1<=s.2.1/\(∀t,s.1<=t->t<=s.2.1->aeD m0 m1 m3 kd kw t (.str (Tx s.2.2)))/\azL s.1/\Asc s.2.2/\hdW r≠some s.2.2/\Cov m0 m1 m3 kd kw (s.2.1+1) r mo
section
variable{m0 m1 m3:Int}{kd kw:Option (List Mk)}
theorem ax5:∀{sts:List TrX} {b mo:Int},Cov m0 m1 m3 kd kw b sts mo->b<=mo
 |[],_,_,h=>by rw[show _=_ from h];exact aV _
 |s::r,b,mo,⟨h1,h2,_,_,_,_,h⟩=>by
  have:=ax5 h
  omega
theorem anI(s s':TrX)(r:List TrX)(a b:Int)(tm:List Nat):afG (s::s'::r) a b tm=s::afG (s'::r) a b tm:=by
 unfold afG
 rw[List.getLast?_cons_cons]
 cases e:(s'::r).getLast? with
 |none=>simp at e
 |some z=>
  show (if z.2.2=tm then _ else _)=s::(if z.2.2=tm then _ else _)
  split<;>rfl
theorem avS(s:TrX)(r:List TrX)(a b:Int)(tm:List Nat):hdW (afG (s::r) a b tm)=some s.2.2:=by
 cases r with
 |nil=>
  show hdW (if s.2.2=tm then _ else _)=_
  split
  ·rename_i c
   show some tm=some s.2.2
   rw[c]
  ·rfl
 |cons s' r=>rw[anI];rfl
theorem auQ{la:Int}{tw:List Nat}:∀{sts:List TrX} {b mo:Int},Cov m0 m1 m3 kd kw b sts mo->mo<=la->(∀t,mo<=t->t<=la->aeD m0 m1 m3 kd kw t (.str (Tx tw)))->azL mo->Asc tw->Cov m0 m1 m3 kd kw b (afG sts mo la tw) (la+1)
 |[],b,mo,h,h1,h2,h3,h4=>by
  obtain rfl:mo=b:=h
  exact⟨rfl,h1,h2,h3,h4,(fun z=>by cases z),rfl⟩
 |[s],b,mo,⟨a1,a2,a3,a4,a5,a6,a7⟩,h1,h2,h3,h4=>by
  have a7:mo=s.2.1+1:=a7
  show Cov m0 m1 m3 kd kw b (if s.2.2=tw then [(s.1,la,tw)] else [s]++[(mo,la,tw)]) (la+1)
  split
  ·rename_i c
   refine⟨a1,by show s.1<=la;omega,fun t t1 t2=>?_,a4,h4,(fun z=>by cases z),rfl⟩
   rcases Int.lt_or_le t mo with w' | w'
   ·show aeD m0 m1 m3 kd kw t (.str (Tx tw))
    rw[←c]
    exact a3 t t1 (by omega)
   ·exact h2 t w' t2
  ·rename_i c
   exact⟨a1,a2,a3,a4,a5,(fun z=>c (a8 z).symm),a7,h1,h2,h3,h4,(fun z=>by cases z),rfl⟩
 |s::s'::r,b,mo,⟨a1,a2,a3,a4,a5,a6,a7⟩,h1,h2,h3,h4=>by
  rw[anI]
  exact⟨a1,a2,a3,a4,a5,by rw[avS];exact a6,auQ a7 h1 h2 h3 h4⟩
theorem aHX{t q:Int}(h:azL t):azL (t+210379680*q):=by
 obtain⟨y,m,k,ok,e⟩:=h
 obtain⟨o1,o2⟩:=au8 (r:=q) (d:=(t+210379680*q) / 1440) ok e (by omega)
 exact⟨_,_,_,o1,o2⟩
theorem aHH{t q:Int}{v:V}(h:aeD m0 m1 m3 kd kw t v):aeD m0 m1 m3 kd kw (t+210379680*q) v:=fun y m k ok e=>by
 obtain⟨o1,o2⟩:=au8 (r:= -q) (d:=t / 1440) ok e (by omega)
 have z:=h _ m k o1 o2
 unfold shK at z ⊢
 rw[akY,show (t / 1440-k+1+6)%7=((t+210379680*q) / 1440-k+1+6)%7 by omega,show t%1440=(t+210379680*q)%1440 by omega] at z
 exact z
theorem aIO{g:Int->Nat->Int}{t:Int}(h:EvG g t):azL t:=by
 obtain⟨M,a1,a2,_⟩:=h
 unfold SM at a1 a2
 have up:=ae4 M
 refine⟨M / 12,M%12+1,t / 1440-af7 M+1,⟨⟨by omega,by omega⟩,by omega,?_⟩,?_⟩
 ·show t / 1440-af7 M+1<=an8 M
  omega
 ·show db (M / 12)+ahead (M / 12) (M%12+1)+(t / 1440-af7 M+1)-1=t / 1440
  have:af7 M=db (M / 12)+ahead (M / 12) (M%12+1):=rfl
  omega
theorem aPR{t q:Int}(hn:0<=m0/\0<=m1/\0<=m3)(hb:m1<2^24/\m0<2^60)(hg:GOk (aaX (tmF m1 m0) m3 kd kw))(h:EvG (aaX (tmF m1 m0) m3 kd kw) t):EvG (aaX (tmF m1 m0) m3 kd kw) (t+210379680*q):=by
 obtain⟨y,m,k,ok,e⟩:=aHX (q:=q) (aIO h)
 exact aC9 hn hb hg ok e (aHH (q:=q) (aQS hn hb hg h) y m k ok e)
end
theorem ag7:Asc [109,111,110,116,104]/\Asc [100,97,121]/\Asc [104,111,117,114]/\Asc [109,105,110,117,116,101]:=⟨acB rfl,acB rfl,acB rfl,acB rfl⟩
theorem aDM{m0 m1 m3 d r y m k:Int}{kd kw:Option (List Mk)}{tw:List Nat}(h:shK m0 m1 m3 kd kw d r y m k=.str (Tx tw)):Asc tw:=by
 unfold shK at h
 split at h
 ·rw[←aa1 h];exact ag7.1
 split at h
 ·rw[←aa1 h];exact ag7.2.1
 split at h
 ·rw[←aa1 h];exact ag7.2.2.1
 split at h
 ·rw[←aa1 h];exact ag7.2.2.2
 ·cases h
theorem ae2{α β:Type}{F:α->β->Prop}:∀{l:List α} {r:List β},Paired F l r->∀{i:Nat} {a:α},l[i]? =some a->∃b,r[i]? =some b/\F a b
 |_,_,.nil,_,_,h=>nomatch h
 |_,_,.cons r _,0,_,h=>by cases h;exact⟨_,rfl,r⟩
 |_,_,.cons _ t,i+1,_,h=>ae2 t h
theorem awL{K:FG}{H H':Hp}{a:Addr}{xs:List V}(e:SameN H H')(h:SqL K H a xs):SqL K H' a xs:=by
 rcases h with (h | ⟨o,h⟩) | h
 ·exact .inl (.inl (e _ _ (fun _ z=>by cases z) h))
 ·exact .inl (.inr ⟨o,e _ _ (fun _ z=>by cases z) h⟩)
 ·exact .inr h
noncomputable def FS(m0 m1 m3:Int)(kd kw:Option (List Mk))(t:Int)(tw:List Nat):Prop:=(tw=[109,105,110,117,116,101]/\tb m0 (t%1440%60).toNat=false)∨(tw=[104,111,117,114]/\tb m1 (t%1440 / 60).toNat=false)∨atZ m3 kd kw (t / 1440) tw
theorem aHG{m0 m1 m3 t y m k:Int}{kd kw:Option (List Mk)}{tw:List Nat}(ok:OkD y m k)(ed:acI y m k=t / 1440)(h:aeD m0 m1 m3 kd kw t (.str (Tx tw))):FS m0 m1 m3 kd kw t tw:=by
 by_cases n1:tw=[109,105,110,117,116,101]
 ·subst n1
  refine .inl ⟨rfl,?_⟩
  have z:=h y m k ok ed
  unfold shK at z
  split at z
  ·exact absurd (aa1 z) (by decide)
  split at z
  ·exact absurd (aa1 z) (by decide)
  split at z
  ·exact absurd (aa1 z) (by decide)
  split at z
  ·assumption
  ·cases z
 by_cases n2:tw=[104,111,117,114]
 ·subst n2
  refine .inr (.inl ⟨rfl,?_⟩)
  have z:=h y m k ok ed
  unfold shK at z
  split at z
  ·exact absurd (aa1 z) (by decide)
  split at z
  ·exact absurd (aa1 z) (by decide)
  split at z
  ·assumption
  split at z
  ·exact absurd (aa1 z) (by decide)
  ·cases z
 ·exact .inr (.inr (aDO h n1 n2))
theorem aFP{m0 m1 m3 t:Int}{kd kw:Option (List Mk)}{tw:List Nat}(h:FS m0 m1 m3 kd kw t tw)(n1:tw≠[109,105,110,117,116,101])(n2:tw≠[104,111,117,114]):atZ m3 kd kw (t / 1440) tw:=by
 rcases h with ⟨z,_⟩ | ⟨z,_⟩ | z
 ·exact absurd z n1
 ·exact absurd z n2
 ·exact z
theorem aAI{m0 m1 m3 t u:Int}{kd kw:Option (List Mk)}(h:FS m0 m1 m3 kd kw t [104,111,117,114])(e1:u / 1440=t / 1440)(e2:u%1440 / 60=t%1440 / 60):FS m0 m1 m3 kd kw u [104,111,117,114]:=by
 rcases h with ⟨z,_⟩ | ⟨_,z⟩ | z
 ·exact absurd z (by decide)
 ·exact .inr (.inl ⟨rfl,by rw[e2];exact z⟩)
 ·exact .inr (.inr (by rw[e1];exact z))
noncomputable def WDS:List (List Nat):=[[109,111,110,116,104],[100,97,121],[104,111,117,114],[109,105,110,117,116,101]]
theorem av8{c:Bool}{A B:Prop}(h:c=true)(a:A):if c=true then A else B:=by rw[h];exact aa2 a
inductive Th (K:FG) (H:Hp) (v:V):Option TrX->Prop
 |piece (t:Addr) (z:TrX) (e:v=.ref t) (h:H t=some (.tup [.int z.1,.int z.2.1,.str (Tx z.2.2)])) (o:z.1<=z.2.1) (w:z.2.2∈WDS):Th K H v (some z)
 |kind (k:Kd) (h:KindV K H v k) (n:Kd.isa k .tuple=false):Th K H v none
 |len (t:Addr) (xs:List V) (e:v=.ref t) (h:H t=some (.tup xs)) (n:xs.length≠3):Th K H v none
 |tri (t:Addr) (x y z:V) (kx ky kz:Kd) (e:v=.ref t) (h:H t=some (.tup [x,y,z])) (hx:KindV K H x kx) (hy:KindV K H y ky) (hz:KindV K H z kz) (n:(kx.wh&&(ky.wh&&Kd.isa kz .str))=false):Th K H v none
 |ord (t:Addr) (a b:Int) (w:List Nat) (e:v=.ref t) (h:H t=some (.tup [.int a,.int b,.str (Tx w)])) (n:b<a∨w∉WDS):Th K H v none
theorem Th.keep{K:FG}{H H':Hp}(s:Same H H'){v:V}{o:Option TrX}(h:Th K H v o):Th K H' v o:=by
 cases h with
 |piece t z e h o w=>exact .piece t z e (s _ _ h) o w
 |kind k h n=>exact .kind k (h.same s) n
 |len t xs e h n=>exact .len t xs e (s _ _ h) n
 |tri t x y z kx ky kz e h hx hy hz n=>exact .tri t x y z kx ky kz e (s _ _ h) (hx.same s) (hy.same s) (hz.same s) n
 |ord t a b w e h n=>exact .ord t a b w e (s _ _ h) n
theorem aqI(w:List Nat):inV (.str (Tx w)) [.str (Tx [109,111,110,116,104]),.str (Tx [100,97,121]),.str (Tx [104,111,117,114]),.str (Tx [109,105,110,117,116,101])]=decide (w∈WDS):=by
 have e:∀a:List Nat,eqV (.str (Tx a)) (.str (Tx w))=decide (w=a):=fun a=>by
  show (Tx a==Tx w)=_
  by_cases c:w=a
  ·subst c;simp
  ·have:¬Tx a=Tx w:=fun z=>c (Tx_inj.mp z).symm
   simp[c,this]
 unfold inV WDS
 simp[e]
noncomputable def gee:Int->List Nat->Int->List (Option TrX)->Bool
 |due,_,e,[]=>decide (due=e+1)
 |_,_,_,none::_=>false
 |due,w,e,some z::r=>if z.1=due/\¬z.2.2=w then gee (z.2.1+1) z.2.2 e r else false
theorem au9:∀{os:List (Option TrX)} {due:Int} {w:List Nat} {e:Int},none∈os->gee due w e os=false
 |none::_,_,_,_,_=>rfl
 |some z::r,due,w,e,h=>by
  show (if z.1=due/\¬z.2.2=w then gee (z.2.1+1) z.2.2 e r else false)=false
  split
  ·exact au9 (by simpa using h)
  ·rfl
theorem aDZ{m0 m1 m3 d r y m k:Int}{kd kw:Option (List Mk)}{tw:List Nat}(h:shK m0 m1 m3 kd kw d r y m k=.str (Tx tw)):tw∈WDS:=by
 unfold shK at h
 split at h
 ·rw[←aa1 h];decide
 split at h
 ·rw[←aa1 h];decide
 split at h
 ·rw[←aa1 h];decide
 split at h
 ·rw[←aa1 h];decide
 ·cases h
theorem auN{m0 m1 m3:Int}{kd kw:Option (List Mk)}:∀{sts:List TrX} {b mo:Int},Cov m0 m1 m3 kd kw b sts mo->∀s∈sts,s.1<=s.2.1/\s.2.2∈WDS/\b<=s.1/\s.1<mo
 |[],_,_,_,s,hs=>nomatch hs
 |s::r,b,mo,⟨a1,a2,a3,a4,_,_,a7⟩,z,hz=>by
  rcases aW.mp hz with rfl | hz
  ·obtain⟨y,m,k,ok,e⟩:=a4
   have le:=ax5 a7
   exact⟨a2,aDZ (a3 z.1 (aV _) a2 y m k ok e),by omega,by omega⟩
  ·obtain⟨h1,h2,h3,h4⟩:=auN a7 z hz
   exact⟨h1,h2,by omega,h4⟩
theorem awF{m0 m1 m3 mo e:Int}{kd kw:Option (List Mk)}(hn:0<=m0/\0<=m1/\0<=m3)(hb:m1<2^24/\m0<2^60)(hg:GOk (aaX (tmF m1 m0) m3 kd kw))(he:EvG (aaX (tmF m1 m0) m3 kd kw) e)(a2:∀t,mo<=t->t<e->¬EvG (aaX (tmF m1 m0) m3 kd kw) t):e<mo+210379680:=by
 rcases Int.lt_or_le e (mo+210379680) with w | w
 ·exact w
 ·exact absurd (aPR (q:= -1) hn hb hg he) (a2 _ (by omega) (by omega))
noncomputable def aBN(K:FG)(f l way:Int)(w':List Nat)(H:Hp)(n:Nat)(σ:L2.St)(H':Hp):Prop:=∃(M:Addr) (xs:List V),σ=[some (.int f),some (.int l),some (.str (Tx w')),some (.int way),some (.ref M)]/\Same H H'/\H' M=some (.lst xs)/\xs.length=n/\∀v∈xs,Th K H' v none/\okV v=true
theorem aCE{a b:Int}{w':List Nat}(h:w'≠[]):gee a [] b [some ((a,b,w'):TrX)]=true:=by
 show (if a=a/\¬w'=[] then decide (b+1=b+1) else false)=true
 rw[if_pos ⟨rfl,h⟩]
 exact dQ rfl
theorem aw4{v:V}(h:v∈[V.str (Tx [109,111,110,116,104]),V.str (Tx [100,97,121]),V.str (Tx [104,111,117,114]),V.str (Tx [109,105,110,117,116,101])]):∃wq:List Nat,v=.str (Tx wq)/\wq∈WDS:=by
 simp only[aW,bS,or_false] at h
 rcases h with rfl | rfl | rfl | rfl
 ·exact⟨_,rfl,by decide⟩
 ·exact⟨_,rfl,by decide⟩
 ·exact⟨_,rfl,by decide⟩
 ·exact⟨_,rfl,by decide⟩
theorem aF9{w:List Nat}(h:w∈WDS):∃W:List Nat,Txt.upper (Tx w)=Tx W/\W∉WDS/\Builtin.Str.tooLong (Txt.upper (Tx w)).length=false:=by
 unfold WDS at h
 simp only[aW,bS,or_false] at h
 rcases h with rfl | rfl | rfl | rfl
 ·exact⟨[77,79,78,84,72],by decide +kernel,by decide,by decide +kernel⟩
 ·exact⟨[68,65,89],by decide +kernel,by decide,by decide +kernel⟩
 ·exact⟨[72,79,85,82],by decide +kernel,by decide,by decide +kernel⟩
 ·exact⟨[77,73,78,85,84,69],by decide +kernel,by decide,by decide +kernel⟩
theorem ahY{α β:Type}{F:α->β->Prop}:∀{xs:List α},(∀x∈xs,∃o,F x o)->∃os,Paired F xs os
 |[],_=>⟨[],.nil⟩
 |x::xs,h=>by
  obtain⟨o,ho⟩:=h x bX
  obtain⟨os,hos⟩:=ahY fun y hy=>h y (bY _ hy)
  exact⟨o::os,.cons ho hos⟩
theorem agA{α β:Type}{F:α->β->Prop}:∀{a:List α} {b:List β} {c:List α} {d:List β},Paired F a b->Paired F c d->Paired F (a++c) (b++d)
 |_,_,_,_,.nil,h=>h
 |_,_,_,_,.cons r t,h=>.cons r (agA t h)
theorem ajM{us:List V}{a b:Option Int}{x:V}(h:x∈aaV us a b):x∈us:=by
 unfold aaV at h
 exact List.mem_of_mem_drop (List.mem_of_mem_take h)
theorem aEC{us:List V}{i:Nat}:(aaV us none (some (i:Int))).length<=i:=by
 unfold aaV
 rw[HT.sIx_nat,cL]
 exact bE (Nat.min_le_left _ _) (bE (Nat.sub_le _ _) (Nat.min_le_left _ _))
theorem aED{us:List V}{j:Nat}:(aaV us (some (j:Int)) none).length<=us.length-min j us.length:=by
 unfold aaV
 rw[HT.sIx_nat,cL,c6]
 exact Nat.min_le_right _ _
theorem ac1{us:List V}{a b:Int}(h0:0<=a)(h1:a<=b)(h2:a<=us.length):(aaV us none (some a)).length+(aaV us (some b) none).length<=us.length:=by
 obtain⟨i,rfl⟩:∃i:Nat,a=i:=⟨a.toNat,(bG h0).symm⟩
 obtain⟨j,rfl⟩:∃j:Nat,b=j:=⟨b.toNat,(bG (cC h0 h1)).symm⟩
 have a1:=aEC (us:=us) (i:=i)
 have a2:=aED (us:=us) (j:=j)
 have a3:i<=min j us.length:=Nat.le_min.mpr ⟨Int.ofNat_le.mp h1,Int.ofNat_le.mp h2⟩
 have a4:=Nat.min_le_right j us.length
 omega
theorem aw8{K:FG}{H:Hp}{A B:List V}{v:V}(hA:∀x∈A,∃o,Th K H x o)(hB:∀x∈B,∃o,Th K H x o)(hv:Th K H v none):∃os,Paired (Th K H) (A++[v]++B) os/\none∈os:=by
 obtain⟨oa,ha⟩:=ahY hA
 obtain⟨ob,hb⟩:=ahY hB
 exact⟨oa++[none]++ob,agA (agA ha (.cons hv .nil)) hb,by simp⟩
theorem aqV{zs:List Int}{i lo hi:Int}(h0:0<=i)(h1:i<zs.length)(h:∀z∈zs,lo<=z/\z<=hi):∃z,atI (zs.map V.int) i=some (V.int z)/\lo<=z/\z<=hi:=by
 have hk:i.toNat<zs.length:=by omega
 have e:i=((i.toNat:Nat):Int):=by omega
 rw[e]
 exact⟨zs[i.toNat],ae6 (by rw[bF,cH hk];rfl),h _ (List.getElem_mem hk)⟩
theorem atF{xs:List V}{i:Int}(h0:0<=i)(h1:i<xs.length):∃v,atI xs i=some v/\v∈xs:=by
 have hk:i.toNat<xs.length:=by omega
 have e:i=((i.toNat:Nat):Int):=by omega
 rw[e]
 exact⟨xs[i.toNat],ae6 (cH hk),List.getElem_mem hk⟩
theorem aE0:(2:Int)*10^60<10^500:=by decide +kernel
theorem axR{z:Int}(h: -(10^60)<=z/\z<=10^60): -(10^500)<z/\z<10^500:=by
 have:=aE0
 omega
theorem ft_nine:FT 0 23 [57] (aaN [9]):=by
 have h:FT 0 23 (aaY 44 [num (9:Int).toNat]) (aaN [[9]].flatten):=ad9 (.cons (i1 (a:=9) (by decide) (by decide) (by decide) (by decide)) .nil) (cM _ _) (by decide)
 have e:aaY 44 [num (9:Int).toNat]=[57]:=by decide +kernel
 rw[e] at h
 exact h
theorem ft_nought:FT 0 59 [48] (aaN [0]):=by
 have h:FT 0 59 (aaY 44 [num (0:Int).toNat]) (aaN [[0]].flatten):=ad9 (.cons (i1 (a:=0) (by decide) (by decide) (by decide) (by decide)) .nil) (cM _ _) (by decide)
 have e:aaY 44 [num (0:Int).toNat]=[48]:=by decide +kernel
 rw[e] at h
 exact h
theorem ft_all:FT 1 12 [42] (aaN (ab0 1 12 1)):=by
 have h:FT 1 12 (aaY 44 [[42]]) (aaN [ab0 1 12 1].flatten):=ad9 (.cons (i0 (by decide) (by decide) (by decide)) .nil) (cM _ _) (by decide)
 have e:aaY 44 [[42]]=[42]:=by decide +kernel
 rw[e,List.flatten_singleton] at h
 exact h
theorem aA5:∀n:Nat,n<9->tb (aaN [9]) n=false:=by decide +kernel
noncomputable def asY(K:FG):Sp:=fun vs H Q _=>∃y:Int,vs=[.int y]/\Q (.bl (aa8 y)) H
noncomputable def afD(K:FG):Sp:=fun vs H Q _=>∃y z:Int,vs=[.int y,.int z]/\(0<z/\z<1073741824)/\Q (.int (mb y z)) H
noncomputable def alK(K:FG):Sp:=fun vs H Q _=>∃y:Int,vs=[.int y]/\Q (.int (db y)) H
noncomputable def asN(K:FG):Sp:=fun vs H Q _=>∃y m:Int,vs=[.int y,.int m]/\(1<=m/\m<=12)/\Q (.int (aaD y m)) H
noncomputable def aqE(K:FG):Sp:=fun vs H Q _=>∃(v:V) (k:Kd),vs=[v]/\KindV K H v k/\Q (.bl k.wh) H
noncomputable def asX(K:FG):Sp:=fun vs H Q _=>∃y m k:Int,vs=[.int y,.int m,.int k]/\((1<=m/\m<=12)/\1<=k/\k<=aaD y m)/\Q (.bl true) H
noncomputable def awK(K:FG):Sp:=fun vs H Q _=>∃y m k:Int,vs=[.int y,.int m,.int k]/\((1<=m/\m<=12)/\1<=k/\k<=aaD y m)/\∀H',Same H H'->Q (.int (db y+ahead y m+k-1)) H'
noncomputable def asH(K:FG):Sp:=fun vs H Q _=>∃d:Int,vs=[.int d]/\∀y:Int,db y<=d->d<db (y+1)->Q (.int y) H
noncomputable def atV(K:FG):Sp:=fun vs H Q _=>∃d:Int,vs=[.int d]/\∀(y m k:Int) (p:Addr) (H':Hp),OkD y m k->acI y m k=d->Same H H'->H' p=some (.tup [.int y,.int m,.int k])->Q (.ref p) H'
noncomputable def asT(K:FG):Sp:=fun vs H Q _=>∃d:Int,vs=[.int d]/\Q (.int ((d+6)%7)) H
noncomputable def apO(K:FG):Sp:=fun vs H Q _=>∃y m d:Int,vs=[.int y,.int m,.int d]/\Q (.int (7*plc y m+(d+6)%7)) H
noncomputable def asU(K:FG):Sp:=fun vs H Q _=>∃y m:Int,vs=[.int y,.int m]/\(1<=m/\m<=12)/\∀H':Hp,Same H H'->Q (.int (kindOf y m)) H'
noncomputable def avQ(K:FG):Sp:=fun vs H Q _=>∃mo:Int,vs=[.int mo]/\∀(p:Addr) (H':Hp),Same H H'->H' p=some (.tup [.int (mo / 1440),.int (mo%1440 / 60),.int (mo%1440%60)])->Q (.ref p) H'
noncomputable def aj4(K:FG):Sp:=fun vs H Q _=>∃l:List Nat,vs=[.str (Tx l)]/\l.length<=2000/\∀H',Same H H'->Q (.bl (aoO l)) H'
noncomputable def amU(K:FG):Sp:=fun vs H Q _=>∃l:List Nat,vs=[.str (Tx l)]/\l.length<=2000/\∀H',Same H H'->Q (.bl (isW l)) H'
noncomputable def aFT(K:FG):Sp:=fun vs H Q _=>∃m n:Int,vs=[.int m,.int n]/\(0<=m/\0<=n)/\Q (.bl (tb m n.toNat)) H
noncomputable def atB(K:FG):Sp:=fun vs H Q _=>∃(a:Addr) (zs:List Int),vs=[.ref a]/\SqL K H a (zs.map V.int)/\(∀z∈zs,0<=z/\z<=100000)/\Q (.int (aaN zs)) H
noncomputable def amT(K:FG):Sp:=fun vs H Q _=>∃m:Int,vs=[.int m]/\(0<=m/\Builtin.Int.intBits m<=100000)/\∀(p:Addr) (H':Hp),Same H H'->H' p=some (.lst ((aqB m).map V.int))->Q (.ref p) H'
noncomputable def aqC(K:FG):Sp:=fun vs H Q _=>∃a b s:Int,vs=[.int a,.int b,.int s]/\(0<=a/\a<=1000)/\(-1<=b/\b<=1000)/\(0<s/\s<=1000)/\∀H',Same H H'->Q (.int (ajF a b s)) H'
noncomputable def aj8(K:FG):Sp:=fun vs H Q _=>∃(l:List Nat) (lo hi:Int),vs=[.str (Tx l),.int lo,.int hi]/\l.length<=600/\∀H',Same H H'->Q (oV (aaZ lo hi l)) H'
noncomputable def arY(K:FG):Sp:=fun vs H Q _=>∃(l:List Nat) (lo hi:Int),vs=[.str (Tx l),.int lo,.int hi]/\l.length<=500/\∀(r:V) (H':Hp),Same H H'->RunV H' r (aa3 lo hi l)->Q r H'
noncomputable def ai6(K:FG):Sp:=fun vs H Q _=>∃(r s:List Nat) (lo hi:Int),vs=[.str (Tx r),.str (Tx s),.int lo,.int hi]/\r.length<=400/\s.length<=400/\(0<=lo/\lo<=hi/\hi<=1000)/\∀H',Same H H'->Q (oV (abS lo hi r s)) H'
noncomputable def apM(K:FG):Sp:=fun vs H Q _=>∃(l:List Nat) (lo hi:Int),vs=[.str (Tx l),.int lo,.int hi]/\l.length<=300/\(0<=lo/\lo<=hi/\hi<=1000)/\∀H',Same H H'->Q (oV (aaJ lo hi l)) H'
noncomputable def alU(K:FG):Sp:=fun vs H Q _=>∃(l:List Nat) (lo hi:Int),vs=[.str (Tx l),.int lo,.int hi]/\l.length<=300/\(0<=lo/\lo<=hi/\hi<=1000)/\auI lo hi l/\∀H',Same H H'->Q (.int (orM (adO lo hi l))) H'
noncomputable def amF(K:FG):Sp:=fun vs H Q _=>∃d f:Int,vs=[.int d,.int f]/\Q (.int ((f+d-1)%7)) H
noncomputable def ap5(K:FG):Sp:=fun vs H Q _=>∃l:Int,vs=[.int l]/\(28<=l/\l<=31)/\Q (.int (2*2^l.toNat-2)) H
noncomputable def ajB(K:FG):Sp:=fun vs H Q _=>∃d l f:Int,vs=[.int d,.int l,.int f]/\Q (.int (nw d l f)) H
noncomputable def ao4(K:FG):Sp:=fun vs H Q _=>∃w f:Int,vs=[.int w,.int f]/\Q (.int (1+(w-f)%7)) H
noncomputable def apA(K:FG)(C:Addr):Sp:=fun vs H Q _=>∃(p:Addr) (l f:Int),vs=[.ref p,.int l,.int f]/\Q (.int 0) H
noncomputable def afK(K:FG)(C:Addr):Sp:=fun vs H Q _=>∃(p dx:Addr) (m:Int),vs=[.ref p,.int m]/\H p=some (.ins C dx [])/\Q .non (upd H p (.ins C dx [("mask",.int m)]))
noncomputable def ai8(K:FG)(C:Addr):Sp:=fun vs H Q _=>∃(p dx:Addr) (m l f:Int),vs=[.ref p,.int l,.int f]/\H p=some (.ins C dx [("mask",.int m)])/\Lf l f/\Q (.int (avM m l)) H
noncomputable def ah1(K:FG)(C:Addr):Sp:=fun vs H Q _=>∃(p dx:Addr) (m:Int),vs=[.ref p,.int m]/\H p=some (.ins C dx [])/\Q .non (upd H p (.ins C dx [("back",.int m)]))
noncomputable def aoW(K:FG)(C:Addr):Sp:=fun vs H Q _=>∃(p dx:Addr) (b l f:Int),vs=[.ref p,.int l,.int f]/\H p=some (.ins C dx [("back",.int b)])/\(0<=b/\b<=30)/\Lf l f/\Q (.int (arS b l)) H
noncomputable def ahO(K:FG)(C:Addr):Sp:=fun vs H Q _=>∃(p dx:Addr) (m:Int),vs=[.ref p,.int m]/\H p=some (.ins C dx [])/\Q .non (upd H p (.ins C dx [("day",.int m)]))
noncomputable def aoR(K:FG)(C:Addr):Sp:=fun vs H Q _=>∃(p dx:Addr) (d l f:Int),vs=[.ref p,.int l,.int f]/\H p=some (.ins C dx [("day",.int d)])/\Ok3 d l f/\Q (.int (aqR d l f)) H
noncomputable def ahC(K:FG)(C:Addr):Sp:=fun vs H Q _=>∃(p dx:Addr) (l f:Int),vs=[.ref p,.int l,.int f]/\H p=some (.ins C dx [])/\Ok3 l l f/\Q (.int (1*2^(nw l l f).toNat)) H
noncomputable def aeJ(K:FG)(C:Addr):Sp:=fun vs H Q _=>∃(p dx:Addr) (m:Int),vs=[.ref p,.int m]/\H p=some (.ins C dx [])/\Q .non (upd H p (.ins C dx [("mask",.int m)]))
noncomputable def ahH(K:FG)(C:Addr):Sp:=fun vs H Q _=>∃(p dx:Addr) (m l f:Int),vs=[.ref p,.int l,.int f]/\H p=some (.ins C dx [("mask",.int m)])/\(0<=m/\m<=127)/\Lf l f/\Q (.int (wkD m l f)) H
noncomputable def aiY(K:FG)(C:Addr):Sp:=fun vs H Q _=>∃(p dx:Addr) (w m:Int),vs=[.ref p,.int w,.int m]/\H p=some (.ins C dx [])/\Q .non (upd (upd H p (.ins C dx (aaT "weekday" (.int w) []))) p (.ins C dx (aoF w m)))
noncomputable def ar9(K:FG)(C:Addr):Sp:=fun vs H Q _=>∃(p dx:Addr) (w m l f:Int),vs=[.ref p,.int l,.int f]/\H p=some (.ins C dx (aoF w m))/\(0<=w/\w<=6)/\(1<=m/\m<=5)/\Lf l f/\Q (.int (an5 w m l f)) H
noncomputable def afE(K:FG)(C:Addr):Sp:=fun vs H Q _=>∃(p dx:Addr) (m:Int),vs=[.ref p,.int m]/\H p=some (.ins C dx [])/\Q .non (upd H p (.ins C dx [("weekday",.int m)]))
noncomputable def ajC(K:FG)(C:Addr):Sp:=fun vs H Q _=>∃(p dx:Addr) (w l f:Int),vs=[.ref p,.int l,.int f]/\H p=some (.ins C dx [("weekday",.int w)])/\(0<=w/\w<=6)/\Lf l f/\Q (.int (aDE w l f)) H
noncomputable def aq2(K:FG)(aD aF aG aI aE aB aH aJ:Addr):Sp:=fun vs H Q _=>∃(b:Addr) (ps:List Addr) (ks:List Mk) (l f:Int),vs=[.ref b,.int l,.int f]/\SqL K H b (ps.map V.ref)/\Ft (MkAt (⟨aD,aF,aG,aI,aE,aB,aH,aJ⟩:Cs) H) ps ks/\(∀k∈ks,k.ok)/\Lf l f/\Q (.int (orK ks l f)) H
noncomputable def ah5(K:FG)(aD aF aG aI aE aB aH aJ:Addr):Sp:=fun vs H Q _=>∃t:List Nat,vs=[.str (Tx t)]/\t.length<=300/\∀(v:V) (H':Hp),Same H H'->MkV (⟨aD,aF,aG,aI,aE,aB,aH,aJ⟩:Cs) H' v (ac7 t)->Q v H'
noncomputable def aiZ(K:FG):Sp:=fun vs H Q _=>∃t:List Nat,vs=[.str (Tx t)]/\t.length<=300/\∀H',Same H H'->Q (oV (wdN t)) H'
noncomputable def aeA(K:FG)(aD aF aG aI aE aB aH aJ:Addr):Sp:=fun vs H Q _=>∃t:List Nat,vs=[.str (Tx t)]/\t.length<=300/\∀(v:V) (H':Hp),Same H H'->MkV (⟨aD,aF,aG,aI,aE,aB,aH,aJ⟩:Cs) H' v (ao8 t)->Q v H'
noncomputable def alX(K:FG)(aD aF aG aI aE aB aH aJ aM aO:Addr):Sp:=fun vs H Q _=>∃(l:List Nat) (lo hi:Int) (wk:Bool),vs=[.str (Tx l),.int lo,.int hi,.ref (if wk=true then aO else aM)]/\(0<=lo/\lo<=hi/\hi<=1000)/\ItemsOk wk lo hi l/\∀(p m:Addr) (qs:List Addr) (H':Hp),H m=none->Same H H'->H' p=some (.tup [.int (orM (plP lo hi (spl 44 l))),.ref m])->H' m=some (.lst (qs.map V.ref))->Ft (MkAt (⟨aD,aF,aG,aI,aE,aB,aH,aJ⟩:Cs) H') qs (mkP wk lo hi (spl 44 l))->Q (.ref p) H'
noncomputable def apF(K:FG)(aD aF aG aI aE aB aH aJ:Addr):Sp:=fun vs H Q _=>∃l:List Nat,vs=[.str (Tx l)]/\ItemsOk false 1 31 l/\(l=[42]->∀H',Same H H'->Q .non H')/\(l≠[42]->∀(m:Addr) (qs:List Addr) (H':Hp),H m=none->Same H H'->H' m=some (.lst (qs.map V.ref))->Ft (MkAt (⟨aD,aF,aG,aI,aE,aB,aH,aJ⟩:Cs) H') qs (alA false 1 31 l)->Q (.ref m) H')
noncomputable def ahZ(K:FG)(aD aF aG aI aE aB aH aJ:Addr):Sp:=fun vs H Q _=>∃l:List Nat,vs=[.str (Tx l)]/\ItemsOk true 0 7 l/\(l=[42]->∀H',Same H H'->Q .non H')/\(l≠[42]->∀(m:Addr) (qs:List Addr) (H':Hp),H m=none->Same H H'->H' m=some (.lst (qs.map V.ref))->Ft (MkAt (⟨aD,aF,aG,aI,aE,aB,aH,aJ⟩:Cs) H') qs (alA true 0 7 l)->Q (.ref m) H')
noncomputable def arW(K:FG):Sp:=fun vs H Q _=>∃k:Int,vs=[.int k]/\(0<=k/\k<=90)/\∀(p:Addr) (H':Hp),Same H H'->H' p=some (.tup ((aj6 k).map V.int))->Q (.ref p) H'
noncomputable def ar8(K:FG):Sp:=fun vs H Q _=>∃h m:Int,vs=[.int h,.int m]/\(0<=h/\h<2^24)/\(0<=m/\m<2^60)/\∀(t:Int) (H':Hp),t=tmF h m->Same H H'->Q (.int t) H'
noncomputable def asI(K:FG)(aD aF aG aI aE aB aH aJ:Addr):Sp:=fun vs H Q _=>∃(dv wv:V) (kd kw:Option (List Mk)) (l f:Int),vs=[dv,wv,.int l,.int f]/\DV (⟨aD,aF,aG,aI,aE,aB,aH,aJ⟩:Cs) H dv kd/\DV (⟨aD,aF,aG,aI,aE,aB,aH,aJ⟩:Cs) H wv kw/\Lf l f/\∀H',Same H H'->Q (.int (abP kd kw l f)) H'
noncomputable def ajK(K:FG)(C:Addr):Sp:=fun vs H Q _=>∃(p dx fa:Addr) (m0 m1 m3:Int) (dv wv:V),vs=[.ref p,.ref fa]/\H p=some (.ins C dx [])/\H fa=some (.lst [.int m0,.int m1,dv,.int m3,wv])/\(0<=m0/\m0<2^60)/\(0<=m1/\m1<2^24)/\∀(tm:Int) (H':Hp),tm=tmF m1 m0->H' p=some (.ins C dx (abT m0 m1 dv m3 wv tm))->(∀b o,H b=some o->b≠p->H' b=some o)->Q .non H'
noncomputable def alS(K:FG)(C:Addr)(aD aF aG aI aE aB aH aJ:Addr):Sp:=fun vs H Q _=>∃(p dx:Addr) (m0 m1 m3 tm k:Int) (dv wv:V) (kd kw:Option (List Mk)),vs=[.ref p,.int k]/\H p=some (.ins C dx (abT m0 m1 dv m3 wv tm))/\(0<=k/\k<=90)/\0<=m3/\DV (⟨aD,aF,aG,aI,aE,aB,aH,aJ⟩:Cs) H dv kd/\DV (⟨aD,aF,aG,aI,aE,aB,aH,aJ⟩:Cs) H wv kw/\∀H',Same H H'->Q (.int (if tb m3 (mnA k).toNat=true then abP kd kw (lnA k) (k%7) else 0)) H'
noncomputable def aoB(K:FG)(aD aF aG aI aE aB aH aJ:Addr):Sp:=fun vs H Q _=>∃(t:List Nat) (pl:Int),vs=[.str (Tx t),.int pl]/\((pl=2/\∃ko,DT false t ko/\∀(v:V) (H':Hp),Same H H'->DV (⟨aD,aF,aG,aI,aE,aB,aH,aJ⟩:Cs) H' v (gO false ko)->(∀p,v=.ref p->H p=none)->Q v H')∨(pl=4/\∃ko,DT true t ko/\∀(v:V) (H':Hp),Same H H'->DV (⟨aD,aF,aG,aI,aE,aB,aH,aJ⟩:Cs) H' v (gO true ko)->(∀p,v=.ref p->H p=none)->Q v H')∨(∃lo hi m:Int,(pl=0/\lo=0/\hi=59∨pl=1/\lo=0/\hi=23∨pl=3/\lo=1/\hi=12)/\FT lo hi t m/\∀H',Same H H'->Q (.int m) H'))
noncomputable def atJ(K:FG)(aD aF aG aI aE aB aH aJ:Addr):Sp:=fun vs H Q _=>∃(t:List Nat) (pl:Int),vs=[.str (Tx t),.int pl]/\((pl=2/\∃ko,DT false t ko/\∀(v:V) (H':Hp),Same H H'->DV (⟨aD,aF,aG,aI,aE,aB,aH,aJ⟩:Cs) H' v (gO false ko)->(∀p,v=.ref p->H p=none)->Q v H')∨(pl=4/\∃ko,DT true t ko/\∀(v:V) (H':Hp),Same H H'->DV (⟨aD,aF,aG,aI,aE,aB,aH,aJ⟩:Cs) H' v (gO true ko)->(∀p,v=.ref p->H p=none)->Q v H')∨(∃lo hi m:Int,(pl=0/\lo=0/\hi=59∨pl=1/\lo=0/\hi=23∨pl=3/\lo=1/\hi=12)/\FT lo hi t m/\∀H',Same H H'->Q (.int m) H'))
noncomputable def arK(K:FG)(aD aF aG aI aE aB aH aJ aA:Addr):Sp:=fun vs H Q _=>∃(w0 w1 w2 w3 w4:List Nat) (m0 m1 m3:Int) (kd kw:Option (List Mk)),vs=[.str (Tx (aaY 32 [w0,w1,w2,w3,w4]))]/\FT 0 59 w0 m0/\FT 0 23 w1 m1/\FT 1 12 w3 m3/\DT false w2 kd/\DT true w4 kw/\(m0<2^60/\m1<2^24)/\∀(x dx:Addr) (dv wv:V) (tm:Int) (H':Hp),tm=tmF m1 m0->Same H H'->H' x=some (.ins aA dx (abT m0 m1 dv m3 wv tm))->DV (⟨aD,aF,aG,aI,aE,aB,aH,aJ⟩:Cs) H' dv (gO false kd)->DV (⟨aD,aF,aG,aI,aE,aB,aH,aJ⟩:Cs) H' wv (gO true kw)->Q (.ref x) H'
noncomputable def aj2(K:FG)(C:Addr):Sp:=fun vs H Q _=>∃(p dx:Addr) (m0 m1 m3 tm:Int) (dv wv:V),vs=[.ref p]/\H p=some (.ins C dx (abT m0 m1 dv m3 wv tm))/\Q (.int m0) H
noncomputable def apD(K:FG)(C:Addr):Sp:=fun vs H Q _=>∃(p dx:Addr) (m0 m1 m3 tm:Int) (dv wv:V),vs=[.ref p]/\H p=some (.ins C dx (abT m0 m1 dv m3 wv tm))/\Q (.int m1) H
noncomputable def al7(K:FG)(C:Addr):Sp:=fun vs H Q _=>∃(p dx:Addr) (m0 m1 m3 tm:Int) (dv wv:V),vs=[.ref p]/\H p=some (.ins C dx (abT m0 m1 dv m3 wv tm))/\Q (.int m3) H
noncomputable def akR(K:FG)(C:Addr)(aD aF aG aI aE aB aH aJ:Addr):Sp:=fun vs H Q _=>∃(p dx:Addr) (m0 m1 m3 tm mo:Int) (dv wv:V) (kd kw:Option (List Mk)),vs=[.ref p,.int mo]/\H p=some (.ins C dx (abT m0 m1 dv m3 wv tm))/\(0<=m0/\0<=m1/\0<=m3)/\DV (⟨aD,aF,aG,aI,aE,aB,aH,aJ⟩:Cs) H dv kd/\DV (⟨aD,aF,aG,aI,aE,aB,aH,aJ⟩:Cs) H wv kw/\∀(y m k:Int) (H':Hp),OkD y m k->acI y m k=mo / 1440->Same H H'->Q (shK m0 m1 m3 kd kw (mo / 1440) (mo%1440) y m k) H'
noncomputable def amV(K:FG):Sp:=fun vs H Q _=>∃N:Int,vs=[.int (N / 12),.int (N%12+1)]/\∀(t:Addr) (H':Hp),Same H H'->H' t=some (.tup [.int ((N+1) / 12),.int ((N+1)%12+1)])->Q (.ref t) H'
noncomputable def aq0(K:FG):Sp:=fun vs H Q _=>∃mo:Int,vs=[.int mo]/\∀(N:Int) (t:Addr) (H':Hp),Same H H'->1440*af7 N<=mo->mo<1440*af7 (N+1)->H' t=some (.tup [.int (N / 12),.int (N%12+1)])->Q (.ref t) H'
noncomputable def amL(K:FG):Sp:=fun vs H Q _=>∃(d:Addr) (ts:List Int),vs=[.ref d]/\SqL K H d (ts.map V.int)/\ts.length<=31/\(∀t∈ts,aiV t)/\∀H',Same H H'->Q (.int (mnN (fun j=>ts.getD j 0) ts.length)) H'
noncomputable def awT(K:FG):Sp:=fun vs H Q _=>∃(m:Int) (k:Nat),vs=[.int m]/\0<m/\tb m k=true/\(∀j,j<k->tb m j=false)/\Q (.int k) H
noncomputable def ahK(K:FG)(aD aF aG aI aE aB aH aJ aA:Addr):Sp:=fun vs H Q _=>∃(tw:List Nat) (p dx:Addr) (m0 m1 m3 tm d:Int) (dv wv:V) (kd kw:Option (List Mk)),vs=[.ref p,.int d]/\H p=some (.ins aA dx (abT m0 m1 dv m3 wv tm))/\(0<=m0/\0<=m1/\0<=m3)/\DV (⟨aD,aF,aG,aI,aE,aB,aH,aJ⟩:Cs) H dv kd/\DV (⟨aD,aF,aG,aI,aE,aB,aH,aJ⟩:Cs) H wv kw/\atZ m3 kd kw d tw/\∀(r:Int) (H':Hp),d<=r->(∀d',d<=d'->d'<=r->atZ m3 kd kw d' tw)->Same H H'->Q (.int r) H'
noncomputable def arV(K:FG)(aD aF aG aI aE aB aH aJ aA:Addr):Sp:=fun vs H Q _=>∃(p dx:Addr) (tw:List Nat) (m0 m1 m3 tm d:Int) (dv wv:V) (kd kw:Option (List Mk)),vs=[.ref p,.int d,.str (Tx tw)]/\H p=some (.ins aA dx (abT m0 m1 dv m3 wv tm))/\(0<=m0/\0<=m1/\0<=m3)/\DV (⟨aD,aF,aG,aI,aE,aB,aH,aJ⟩:Cs) H dv kd/\DV (⟨aD,aF,aG,aI,aE,aB,aH,aJ⟩:Cs) H wv kw/\FS m0 m1 m3 kd kw d tw/\∀(r:Int) (H':Hp),d<=r->(tw≠[109,105,110,117,116,101]->(r+1)%60=0)->(∀t,d<=t->t<=r->FS m0 m1 m3 kd kw t tw/\(aeD m0 m1 m3 kd kw d (.str (Tx tw))->aeD m0 m1 m3 kd kw t (.str (Tx tw))))->Same H H'->Q (.int r) H'
noncomputable def aj5(K:FG):Sp:=fun vs H Q _=>∃(p:Addr) (vs':List V) (sts:List TrX) (a b:Int) (tm:List Nat),vs=[.ref p,.int a,.int b,.str (Tx tm)]/\H p=some (.lst vs')/\Paired (TpX H) vs' sts/\vs'.length<=10000000/\∀H' us,H' p=some (.lst us)->Paired (TpX H') us (afG sts a b tm)->(∀q o,q≠p->H q=some o->H' q=some o)->Q .non H'
noncomputable def aqU(K:FG)(aD aF aG aI aE aB aH aJ aA:Addr):Sp:=fun vs H Q _=>∃(p:Addr) (b e m0 m1 m3:Int) (kd kw:Option (List Mk)),vs=[.ref p,.int b,.int e]/\RowR (⟨aD,aF,aG,aI,aE,aB,aH,aJ⟩:Cs) aA H p m0 m1 m3 kd kw/\(∀t,b<=t->t<=e->¬EvG (aaX (tmF m1 m0) m3 kd kw) t)/\e-b<=23000000/\∀l us sts H',H l=none->Same H H'->H' l=some (.lst us)->Paired (TpX H') us sts->(∀s∈sts,axU m0 m1 m3 kd kw b e s)->us.length<=10000000->(b<=e+1->Cov m0 m1 m3 kd kw b sts (e+1))->(e<b->us=[])->Q (.ref l) H'
noncomputable def ad7(K:FG)(C:Addr)(aD aF aG aI aE aB aH aJ:Addr):Sp:=fun vs H Q _=>∃(p dx:Addr) (m0 m1 m3 tm k:Int) (dv wv:V) (kd kw:Option (List Mk)),vs=[.ref p,.int k]/\H p=some (.ins C dx (abT m0 m1 dv m3 wv tm))/\(0<=k/\k<=90)/\0<=m3/\DV (⟨aD,aF,aG,aI,aE,aB,aH,aJ⟩:Cs) H dv kd/\DV (⟨aD,aF,aG,aI,aE,aB,aH,aJ⟩:Cs) H wv kw/\∀D H',Same H H'->H' D=some (.lst ((acQ (aaX tm m3 kd kw) k).map V.int))->Q (.ref D) H'
noncomputable def alW(P:Program)(w:World)(mg:Str->Option Value)(base:Heap)(K:FG):Sp:=fun vs H Q _=>∃(kn f:Addr) (kd:Int) (kvs:List (Key×V)) (g:Int->Nat->Int) (H0:Hp),vs=[.ref kn,.ref f,.int kd]/\(0<=kd/\kd<=90)/\H kn=some (.dK kvs)/\ayW g kvs/\kvs.length<=1000/\GOk g/\H0 kn=none/\Same H0 H/\asM P w K mg base 8 H0 f g/\∀kvs' H',H' kn=some (.dK kvs')->ayW g kvs'->kvs'.length<=kvs.length+1->(∀b o,b≠kn->H b=some o->H' b=some o)->Q (.int (wK g kd)) H'
noncomputable def arL(P:Program)(w:World)(mg:Str->Option Value)(base:Heap)(K:FG):Sp:=fun vs H Q _=>∃(f:Addr) (mo:Int) (g:Int->Nat->Int),vs=[.ref f,.int mo]/\GOk g/\asM P w K mg base 8 H f g/\(∀e H',Same H H'->EvG g e->mo<=e->(∀t,mo<=t->t<e->¬EvG g t)->e-mo<=22000000->Q (.int e) H')/\(∀H',Same H H'->(∀t,¬EvG g t)->Q .non H')
noncomputable def ao6(K:FG)(aD aF aG aI aE aB aH aJ aA aK aL:Addr):Sp:=fun vs H Q _=>∃(p:Addr) (mo m0 m1 m3:Int) (kd kw:Option (List Mk)),vs=[.ref p,.int mo]/\RowR (⟨aD,aF,aG,aI,aE,aB,aH,aJ⟩:Cs) aA H p m0 m1 m3 kd kw/\amK H aK aL/\∀t l us H' (v:V),SameN H H'->amK H' aK aL->ayA H l->H' t=some (.tup [v,.ref l])->H' l=some (.lst us)->((∃e,v=.int e/\EvG (aaX (tmF m1 m0) m3 kd kw) e/\(mo<=e/\∀t,mo<=t->t<e->¬EvG (aaX (tmF m1 m0) m3 kd kw) t)/\(e=mo->us=[])/\us.length<=10000000/\∃sts,Paired (TpX H') us sts/\Cov m0 m1 m3 kd kw mo sts e)∨(v=.non/\us=[]/\∀t,¬EvG (aaX (tmF m1 m0) m3 kd kw) t))->Q (.ref t) H'
noncomputable def ai5(K:FG):Sp:=fun vs H Q _=>∃(a:Addr) (k:Int),vs=[.ref a,.int k]/\(∃ns:List Int,SqL K H a (ns.map V.int))/\(0<=k/\k<1000)/\∀c:Int,Q (.int c) H
noncomputable def aoM(K:FG):Sp:=fun vs H Q _=>∃n:Int,vs=[.int n]/\∀r:Int,0<=r->r<2147483629->Q (.int r) H
noncomputable def alM(K:FG):Sp:=fun vs H Q _=>∃(c:Int) (a:Addr) (b:Bool) (ss:List Int),vs=[.int c,.ref a,.bl b]/\SqL K H a (ss.map V.int)/\(∀z∈ss,0<z/\z<1073741824)/\ss.length<=63/\∀(ds:List Int) (p:Addr) (H':Hp),Same H H'->H' p=some (.lst (ds.map V.int))->Digs ds ss->Q (.ref p) H'
noncomputable def apK(K:FG):Sp:=fun vs H Q _=>∃(p:Addr) (fm fi la st lo hi:Int),vs=[.ref p,.int lo,.int hi]/\SqL K H p [.int fm,.int fi,.int la,.int st]/\(0<=lo/\lo<=hi/\hi<=63)/\∀(t u:Addr) (tw:List Nat) (ns:List Int) (H':Hp),Same H H'->H' t=some (.tup [.str (Tx tw),.ref u])->H' u=some (.lst (ns.map V.int))->ad4 lo hi tw ns->Asc tw->Q (.ref t) H'
noncomputable def ajA(K:FG):Sp:=fun vs H Q _=>∃(c lo hi:Int) (bm:Bool),vs=[.int c,.int lo,.int hi,.bl bm]/\(0<=lo/\lo<hi/\hi<=62)/\∀(t N:Addr) (tw:List Nat) (ns:List Int) (H':Hp),Same H H'->H' t=some (.tup [.str (Tx tw),.ref N])->H' N=some (.lst (ns.map V.int))->(∀n∈ns,lo<=n/\n<=hi)->ns≠[]->ns.length<=200->FT lo hi tw (aaN ns)->Q (.ref t) H'
noncomputable def ao2(K:FG):Sp:=fun vs H Q _=>∃(c:Int) (bm:Bool),vs=[.int c,.bl bm]/\∀(t:Addr) (tw:List Nat) (v:V) (ko:Option (List Mk)) (H':Hp),Same H H'->H' t=some (.tup [.str (Tx tw),v])->DT false tw ko->Q (.ref t) H'
noncomputable def ahJ(K:FG):Sp:=fun vs H Q _=>∃(c:Int) (bm:Bool),vs=[.int c,.bl bm]/\∀(t:Addr) (tw:List Nat) (v:V) (ko:Option (List Mk)) (H':Hp),Same H H'->H' t=some (.tup [.str (Tx tw),v])->DT true tw ko->Q (.ref t) H'
noncomputable def aoS(K:FG):Sp:=fun vs H Q _=>∃(a:Addr) (c0 c1 c2 c3 c4:Int) (bm:Bool),vs=[.ref a,.bl bm]/\SqL K H a [.int c0,.int c1,.int c2,.int c3,.int c4]/\∀(t:Addr) (w0 w1 w2 w3 w4:List Nat) (m0 m1 m3:Int) (v1 v2 v3 v4 v5:V) (kd kw:Option (List Mk)) (H':Hp),Same H H'->H' t=some (.tup [.str (Tx (aaY 32 [w0,w1,w2,w3,w4])),v1,v2,v3,v4,v5])->FT 0 59 w0 m0->FT 0 23 w1 m1->FT 1 12 w3 m3->DT false w2 kd->DT true w4 kw->(m0<2^60/\m1<2^24)->Q (.ref t) H'
noncomputable def amN(K:FG):Sp:=fun vs H Q _=>∃y:Int,vs=[.int y]/\(-400<=y/\y<=2000)/\∀z:Int,(-1000000<z/\z<1000000)->Q (.int z) H
noncomputable def ajY(K:FG):Sp:=fun vs H Q _=>∃(c:Int) (bm:Bool),vs=[.int c,.bl bm]/\∀(mo:Int) (H':Hp),(-(10^59)<=mo/\mo<=10^59)->Same H H'->Q (.int mo) H'
noncomputable def amI(K:FG):Sp:=fun vs H Q _=>∃(v:V) (o:Option TrX),vs=[v]/\Th K H v o/\Q (.bl o.isSome) H
noncomputable def af8(K:FG):Sp:=fun vs H Q _=>∃(b e:Int) (l:Addr) (us:List V) (os:List (Option TrX)),vs=[.int b,.int e,.ref l]/\SqL K H l us/\Paired (Th K H) us os/\Q (.bl (gee b [] e os)) H
noncomputable def ajV(K:FG)(aD aF aG aI aE aB aH aJ aA:Addr):Sp:=fun vs H Q _=>∃(p:Addr) (mo m0 m1 m3:Int) (kd kw:Option (List Mk)),vs=[.ref p,.int mo,.str (Tx [104,111,117,114])]/\RowR (⟨aD,aF,aG,aI,aE,aB,aH,aJ⟩:Cs) aA H p m0 m1 m3 kd kw/\tb m1 (mo%1440 / 60).toNat=false/\∀H',Same H H'->Q (.bl true) H'
noncomputable def as5(K:FG)(aD aF aG aI aE aB aH aJ aA:Addr):Sp:=fun vs H Q _=>∃(p:Addr) (a b m0 m1 m3:Int) (w':List Nat) (kd kw:Option (List Mk)),vs=[.ref p,.int a,.int b,.str (Tx w')]/\RowR (⟨aD,aF,aG,aI,aE,aB,aH,aJ⟩:Cs) aA H p m0 m1 m3 kd kw/\((576000<=b-a/\∀H',Same H H'->Q (.bl false) H')∨(b-a<576000/\w'=[104,111,117,114]/\(∀t,a<=t->t<=b->tb m1 (t%1440 / 60).toNat=false)/\∀H',Same H H'->Q (.bl true) H'))
noncomputable def ax2(K:FG)(aD aF aG aI aE aB aH aJ aA:Addr):Sp:=fun vs H Q _=>∃(p l:Addr) (b e m0 m1 m3:Int) (kd kw:Option (List Mk)) (us:List V) (os:List (Option TrX)),vs=[.ref p,.int b,.int e,.ref l]/\RowR (⟨aD,aF,aG,aI,aE,aB,aH,aJ⟩:Cs) aA H p m0 m1 m3 kd kw/\SqL K H l us/\Paired (Th K H) us os/\((e<b/\∀H',Same H H'->Q (.bl (decide (us.length=0))) H')∨(b<=e/\gee b [] e os=false/\∀H',Same H H'->Q (.bl false) H')∨(b<=e/\∃z,os=[some z]/\gee b [] e os=true/\((576000<=z.2.1-z.1/\∀H',Same H H'->Q (.bl false) H')∨(z.2.1-z.1<576000/\z.2.2=[104,111,117,114]/\(∀t,z.1<=t->t<=z.2.1->tb m1 (t%1440 / 60).toNat=false)/\∀H',Same H H'->Q (.bl true) H'))))
noncomputable def aqY(K:FG):Sp:=fun vs H Q _=>∃(f l way:Int) (w':List Nat),vs=[.int f,.int l,.str (Tx w'),.int way]/\w'∈WDS/\(0<=way/\way<21)/\(-(10^500)<f/\f<10^500)/\∀(v:V) (H':Hp),Same H H'->Th K H' v none->okV v=true->Q v H'
noncomputable def amR(K:FG)(aD aF aG aI aE aB aH aJ aA:Addr):Sp:=fun vs H Q _=>∃(p l:Addr) (b e m0 m1 m3:Int) (kd kw:Option (List Mk)) (us:List V) (os:List (Option TrX)) (due:Bool),vs=[.ref p,.int b,.int e,.ref l,.bl due]/\RowR (⟨aD,aF,aG,aI,aE,aB,aH,aJ⟩:Cs) aA H p m0 m1 m3 kd kw/\SqL K H l us/\Paired (Th K H) us os/\(∀v∈us,okV v=true)/\((e<b/\due=decide (us.length=0))∨(b<=e/\gee b [] e os=false/\due=false)∨(b<=e/\∃z,os=[some z]/\gee b [] e os=true/\576000<=z.2.1-z.1/\due=false))/\∀H',Same H H'->Q (.bl true) H'
noncomputable def alP(K:FG)(aD aF aG aI aE aB aH aJ aA:Addr):Sp:=fun vs H Q _=>vs=[]/\∀H',Same H H'->Q (.bl true) H'
noncomputable def amE(K:FG)(aD aF aG aI aE aB aH aJ aA aK aL:Addr):Sp:=fun vs H Q _=>∃(p:Addr) (mo c m0 m1 m3:Int) (kd kw:Option (List Mk)) (bm:Bool),vs=[.ref p,.int mo,.int c,.bl bm]/\RowR (⟨aD,aF,aG,aI,aE,aB,aH,aJ⟩:Cs) aA H p m0 m1 m3 kd kw/\amK H aK aL/\(-(10^59)<=mo/\mo<=10^59)/\∀H',SameN H H'->amK H' aK aL->Q (.bl true) H'
noncomputable def apR(K:FG)(aK aL:Addr):Sp:=fun vs H Q _=>∃(a:Addr) (ns:List Int),vs=[.ref a]/\SqL K H a (ns.map V.int)/\ns.length<=63/\amK H aK aL/\∀H',Q (.bl true) H'
theorem md_Last___init__{K:FG}{C f T:Addr}{od an tod:Option Addr}{sl tsl:Array (Option Value)}{oc kV dc pm cd ct:Value}{tn:Nat}{t0:Tok}(a:PySem.W.findIn K (.ref C) "__init__"=some (some (.ref f)))(i:PySem.W.isFn K (.ref f)=true)(l:K.lookup f=some ⟨oc,od,.func (PySem.W.fnOf "__init__" "Last.__init__" (aa7 aa9) (aaU aa9) (aaC aa9) (.ref T) kV dc pm an cd ct),sl⟩)(c:PySem.W.codeIn K cd "Last.__init__"=true)(k:PySem.W.keepIn K (.ref f)=true)(lt:K.lookup T=some ⟨.type "tuple",tod,.seq #[.int 0 t0] tn,tsl⟩):FnMD K C "__init__" "Last.__init__" aa9 ["self","back"] [.int 0]:=
 aB7 (ds:=[.int 0 t0]) a i l c k (fun s us X hl=>match us,(show us.length=2 by simpa using hl) with | [_,_],_=>PySem.W.binds_K X rfl lt rfl rfl rfl) (.cons ⟨_,rfl⟩ .nil) (fun s us X hl=>match us,(show us.length=1 by simpa using hl) with | [_],_=>PySem.W.binds_K X rfl lt rfl rfl rfl)
theorem q_MONTH_LASTS{K:FG}{a:Addr}{od:Option Addr}{sl:Array (Option Value)}{n:Nat}{t0 t1 t2 t3 t4 t5 t6 t7 t8 t9 t10 t11:Tok}(l:K.lookup a=some ⟨.type "tuple",od,.seq #[.int 31 t0,.int 28 t1,.int 31 t2,.int 30 t3,.int 31 t4,.int 30 t5,.int 31 t6,.int 31 t7,.int 30 t8,.int 31 t9,.int 30 t10,.int 31 t11] n,sl⟩):∀H,SqT K H a (([31,28,31,30,31,30,31,31,30,31,30,31]:List Int).map V.int):=fun H=>.inr ⟨_,_,_,l,rfl,rfl,(zL 12),(.cons ⟨_,rfl⟩ (.cons ⟨_,rfl⟩ (.cons ⟨_,rfl⟩ (.cons ⟨_,rfl⟩ (.cons ⟨_,rfl⟩ (.cons ⟨_,rfl⟩ (.cons ⟨_,rfl⟩ (.cons ⟨_,rfl⟩ (.cons ⟨_,rfl⟩ (.cons ⟨_,rfl⟩ (.cons ⟨_,rfl⟩ (.cons ⟨_,rfl⟩ .nil))))))))))))⟩
theorem q_BOUNDS{K:FG}{a b0 b1 b3:Addr}{ep:Nat}{t0 t1 t3:Tok}(l:K.lookup a=some ⟨.type "dict",none,.dict #[⟨0,.int 0 t0,.ref b0⟩,⟨1,.int 1 t1,.ref b1⟩,⟨3,.int 3 t3,.ref b3⟩] ep,#[]⟩):KD K a [(0,.ref b0),(1,.ref b1),(3,.ref b3)]:=by
 refine⟨_,ep,[(.inl 0,.ref b0),(.inl 1,.ref b1),(.inl 3,.ref b3)],l,(.cons ⟨rfl,rfl⟩ (.cons ⟨rfl,rfl⟩ (.cons ⟨rfl,rfl⟩ .nil))),(show ([.inl 0,.inl 1,.inl 3]:List Key).Nodup by decide),fun P w=>⟨?_,(.cons rfl rfl (.cons rfl rfl (.cons rfl rfl .nil)))⟩⟩
 intro e he
 simp only[Array.mem_toArray,aW,bS,or_false] at he
 rcases he with rfl | rfl | rfl
 ·exact⟨.inl 0,rfl,rfl⟩
 ·exact⟨.inl 1,rfl,rfl⟩
 ·exact⟨.inl 3,rfl,rfl⟩
theorem q_BOUNDS_0{K:FG}{a:Addr}{od:Option Addr}{sl:Array (Option Value)}{n:Nat}{t0 t1:Tok}(l:K.lookup a=some ⟨.type "tuple",od,.seq #[.int 0 t0,.int 59 t1] n,sl⟩):∀H,SqT K H a (([0,59]:List Int).map V.int):=fun H=>.inr ⟨_,_,_,l,rfl,rfl,(zL 2),(.cons ⟨_,rfl⟩ (.cons ⟨_,rfl⟩ .nil))⟩
theorem q_BOUNDS_1{K:FG}{a:Addr}{od:Option Addr}{sl:Array (Option Value)}{n:Nat}{t0 t1:Tok}(l:K.lookup a=some ⟨.type "tuple",od,.seq #[.int 0 t0,.int 23 t1] n,sl⟩):∀H,SqT K H a (([0,23]:List Int).map V.int):=fun H=>.inr ⟨_,_,_,l,rfl,rfl,(zL 2),(.cons ⟨_,rfl⟩ (.cons ⟨_,rfl⟩ .nil))⟩
theorem q_BOUNDS_3{K:FG}{a:Addr}{od:Option Addr}{sl:Array (Option Value)}{n:Nat}{t0 t1:Tok}(l:K.lookup a=some ⟨.type "tuple",od,.seq #[.int 1 t0,.int 12 t1] n,sl⟩):∀H,SqT K H a (([1,12]:List Int).map V.int):=fun H=>.inr ⟨_,_,_,l,rfl,rfl,(zL 2),(.cons ⟨_,rfl⟩ (.cons ⟨_,rfl⟩ .nil))⟩
theorem q_WORDS{K:FG}{a:Addr}{od:Option Addr}{sl:Array (Option Value)}{n:Nat}{t0 t1 t2 t3:Tok}{x0 x1 x2 x3:Str}(e0:x0=Tx [109,111,110,116,104])(e1:x1=Tx [100,97,121])(e2:x2=Tx [104,111,117,114])(e3:x3=Tx [109,105,110,117,116,101])(l:K.lookup a=some ⟨.type "tuple",od,.seq #[.str x0 t0,.str x1 t1,.str x2 t2,.str x3 t3] n,sl⟩):∀H,SqT K H a [.str (Tx [109,111,110,116,104]),.str (Tx [100,97,121]),.str (Tx [104,111,117,114]),.str (Tx [109,105,110,117,116,101])]:=fun H=>.inr ⟨_,_,_,l,rfl,rfl,(zL 4),(.cons ⟨_,by rw[e0]⟩ (.cons ⟨_,by rw[e1]⟩ (.cons ⟨_,by rw[e2]⟩ (.cons ⟨_,by rw[e3]⟩ .nil))))⟩
theorem mg_tx{K:FG}{h:Heap}{mg:Str->Option Value}{x n:Str}{l:List Nat}{t:Tok}(X:K.In h)(G:h.Ns mainGlobals mg)(e:x=Tx l)(a:PySem.W.nsIn K mainGlobals n=some (some (.str x t))):mg n=some (.str (Tx l) t):=e▸PySem.W.mg_of X G a
theorem as3:FnScope ["year"] ["year"] (aaC anM):=fsc
theorem afF:FnScope ["year","step"] ["year","step"] (aaC acO):=fsc
theorem sc_days_before:FnScope ["year","longs"] ["year"] (aaC af4):=fsc
theorem atP:FnScope ["year","month"] ["year","month"] (aaC anB):=fsc
theorem asE:FnScope ["thing"] ["thing"] (aaC ak1):=fsc
theorem atQ:FnScope ["year","month","day"] ["year","month","day"] (aaC anX):=fsc
theorem sc_day_of:FnScope ["year","month","day","ahead"] ["year","month","day"] (aaC aqQ):=fsc
theorem sc_year_of:FnScope ["day","year"] ["day"] (aaC anK):=fsc
theorem sc_date_of:FnScope ["day","year","month","rest"] ["day"] (aaC am9):=fsc
theorem as7:FnScope ["day"] ["day"] (aaC anE):=fsc
theorem sc_kind_from:FnScope ["year","month","day","place"] ["year","month","day"] (aaC aiL):=fsc
theorem asW:FnScope ["year","month"] ["year","month"] (aaC anC):=fsc
theorem sc_parted:FnScope ["moment","time"] ["moment"] (aaC arB):=fsc
theorem akG:FnScope ["text"] ["text"] (aaC afL):=fsc
theorem alY:FnScope ["text"] ["text"] (aaC ag4):=fsc
theorem aD3:FnScope ["mask","number"] ["mask","number"] (aaC aCZ):=fsc
theorem sc_mask_of:FnScope ["numbers","mask","number"] ["numbers"] (aaC anF):=fsc
theorem al3:FnScope ["mask"] ["mask"] (aaC ag8):=fsc
theorem ar6:FnScope ["first","last","stride"] ["first","last","stride"] (aaC ak6):=fsc
theorem sc_read_number:FnScope ["text","low","high","number"] ["text","low","high"] (aaC afO):=fsc
theorem sc_read_run:FnScope ["text","low","high","ends"] ["text","low","high"] (aaC alC):=fsc
theorem sc_read_strided:FnScope ["run_text","stride_text","low","high","run","stride","last"] ["run_text","stride_text","low","high"] (aaC aeR):=fsc
theorem sc_read_item:FnScope ["item","low","high","parts","run"] ["item","low","high"] (aaC aiJ):=fsc
theorem sc_read_field:FnScope ["text","low","high","items","mask","place","item","told"] ["text","low","high"] (aaC ag1):=fsc
theorem al8:FnScope ["day","first"] ["day","first"] (aaC agI):=fsc
theorem arO:FnScope ["last"] ["last"] (aaC aj7):=fsc
theorem sc_nearest_work:FnScope ["day","last","first","of_week"] ["day","last","first"] (aaC aeE):=fsc
theorem aoT:FnScope ["weekday","first"] ["weekday","first"] (aaC aiD):=fsc
theorem ao5:FnScope ["self","last","first"] ["self","last","first"] (aaC aiU):=fsc
theorem afI:FnScope ["self","mask"] ["self","mask"] (aaC acS):=fsc
theorem ai7:FnScope ["self","last","first"] ["self","last","first"] (aaC aeF):=fsc
theorem ahB:FnScope ["self","back"] ["self","back"] (aaC aa9):=fsc
theorem apS:FnScope ["self","last","first"] ["self","last","first"] (aaC aiO):=fsc
theorem ahD:FnScope ["self","day"] ["self","day"] (aaC ad3):=fsc
theorem aoA:FnScope ["self","last","first"] ["self","last","first"] (aaC aiQ):=fsc
theorem ahR:FnScope ["self","last","first"] ["self","last","first"] (aaC adV):=fsc
theorem aeG:FnScope ["self","mask"] ["self","mask"] (aaC acA):=fsc
theorem sc_Weekdays_days:FnScope ["self","last","first","weeks","week"] ["self","last","first"] (aaC adY):=fsc
theorem ajH:FnScope ["self","weekday","many"] ["self","weekday","many"] (aaC aeZ):=fsc
theorem sc_Nth_days:FnScope ["self","last","first","day"] ["self","last","first"] (aaC akT):=fsc
theorem afH:FnScope ["self","weekday"] ["self","weekday"] (aaC acX):=fsc
theorem ai3:FnScope ["self","last","first"] ["self","last","first"] (aaC aeL):=fsc
theorem sc_any_days:FnScope ["marks","last","first","mask","mark"] ["marks","last","first"] (aaC ak4):=fsc
theorem sc_read_day_mark:FnScope ["item","back","day"] ["item"] (aaC adX):=fsc
theorem sc_read_weekday:FnScope ["text","number"] ["text"] (aaC aeO):=fsc
theorem sc_read_weekday_mark:FnScope ["item","weekday","parts","many"] ["item"] (aaC acF):=fsc
theorem sc_read_items:FnScope ["text","low","high","read_mark","items","mask","marks","place","item","plain","mark"] ["text","low","high","read_mark"] (aaC agN):=fsc
theorem sc_read_days:FnScope ["text","read"] ["text"] (aaC aiC):=fsc
theorem sc_read_weekdays:FnScope ["text","read","mask"] ["text"] (aaC adW):=fsc
theorem sc_month_at:FnScope ["kind","place","first"] ["kind"] (aaC akO):=fsc
theorem sc_times_of:FnScope ["hours","minutes","times","hour"] ["hours","minutes"] (aaC alE):=fsc
theorem sc_days_by:FnScope ["days","weekdays","last","first","mask","marks"] ["days","weekdays","last","first"] (aaC anV):=fsc
theorem ajI:FnScope ["self","fields"] ["self","fields"] (aaC aeB):=fsc
theorem sc_Row_days_in:FnScope ["self","kind","month"] ["self","kind"] (aaC afP):=fsc
theorem sc_read_word:FnScope ["word","place","bounds"] ["word","place"] (aaC aiR):=fsc
theorem at0:FnScope ["word","place"] ["word","place"] (aaC anG):=fsc
theorem sc_read_row:FnScope ["text","words"] ["text"] (aaC akZ):=fsc
theorem aj1:FnScope ["self"] ["self"] (aaC af3):=fsc
theorem aoN:FnScope ["self"] ["self"] (aaC aiN):=fsc
theorem amD:FnScope ["self"] ["self"] (aaC ag3):=fsc
theorem sc_Row_shut_by:FnScope ["self","moment","parts","date"] ["self","moment"] (aaC afZ):=fsc
theorem amA:FnScope ["year","month"] ["year","month"] (aaC ag9):=fsc
theorem sc_month_of:FnScope ["moment","date"] ["moment"] (aaC alO):=fsc
theorem sc_minutes_on:FnScope ["days","minutes","place","times"] ["days"] (aaC agP):=fsc
theorem awV:FnScope ["mask"] ["mask"] (aaC arU):=fsc
theorem sc_last_shut_day:FnScope ["row","day","date","kind","later"] ["row","day"] (aaC adU):=fsc
theorem aqG:FnScope ["row","moment","word"] ["row","moment","word"] (aaC akJ):=fsc
theorem aj0:FnScope ["stretches","first","last","told"] ["stretches","first","last","told"] (aaC afV):=fsc
theorem sc_paper_of:FnScope ["row","begin","end","stretches","moment","word","last"] ["row","begin","end"] (aaC akU):=fsc
theorem sc_Row_on_days:FnScope ["self","kind","days","last"] ["self","kind"] (aaC af0):=fsc
theorem amP:FnScope ["known","on_days","kind"] ["known","on_days","kind"] (aaC agM):=fsc
theorem sc_first_at:FnScope ["on_days","moment","month","known","turn","start","passed","rest"] ["on_days","moment"] (aaC akB):=fsc
theorem sc_next_from:FnScope ["row","moment","found"] ["row","moment"] (aaC aiK):=fsc
theorem ajE:FnScope ["_law_script","_law_k"] ["_law_script","_law_k"] (aaC aeP):=fsc
theorem sc__law_stir:FnScope ["_law_number","_law_first","_law_second"] ["_law_number"] (aaC aiF):=fsc
theorem sc__law_digits:FnScope ["_law_cell","_law_sizes","_law_mixed","_law_found","_law_size"] ["_law_cell","_law_sizes","_law_mixed"] (aaC afW):=fsc
theorem sc__law_item:FnScope ["_law_parts","_law_low","_law_high","_law_form","_law_one","_law_later","_law_by"] ["_law_parts","_law_low","_law_high"] (aaC aiB):=fsc
theorem sc__law_numbers:FnScope ["_law_cell","_law_low","_law_high","_law_mixed","_law_size","_law_drawn","_law_texts","_law_numbers_here","_law_k","_law_text","_law_some"] ["_law_cell","_law_low","_law_high","_law_mixed"] (aaC aeQ):=fsc
theorem sc__law_days:FnScope ["_law_cell","_law_mixed","_law_drawn","_law_texts","_law_marks","_law_k","_law_sort","_law_form","_law_one","_law_later","_law_by","_law_text","_law_some","_law_mark"] ["_law_cell","_law_mixed"] (aaC aiP):=fsc
theorem sc__law_weekdays:FnScope ["_law_cell","_law_mixed","_law_drawn","_law_texts","_law_marks","_law_k","_law_sort","_law_form","_law_one","_law_later","_law_by","_law_text","_law_some","_law_mark"] ["_law_cell","_law_mixed"] (aaC ad1):=fsc
theorem sc__law_spec:FnScope ["_law_cells","_law_mixed","_law_minutes","_law_hours","_law_days_here","_law_months","_law_weekdays_here","_law_rare","_law_text"] ["_law_cells","_law_mixed"] (aaC ah8):=fsc
theorem amJ:FnScope ["_law_year"] ["_law_year"] (aaC agL):=fsc
theorem sc__law_moment:FnScope ["_law_cell","_law_mixed","_law_drawn","_law_year","_law_number"] ["_law_cell","_law_mixed"] (aaC afT):=fsc
theorem amG:FnScope ["thing"] ["thing"] (aaC ag0):=fsc
theorem sc_goes_end_to_end:FnScope ["begin","end","paper","due","word","thing"] ["begin","end","paper"] (aaC ac0):=fsc
theorem sc_field_shuts:FnScope ["row","moment","word","parts","date","in_month"] ["row","moment","word"] (aaC afU):=fsc
theorem sc_is_shut:FnScope ["row","first","last","word","moment"] ["row","first","last","word"] (aaC amZ):=fsc
theorem axC:FnScope ["row","begin","end","paper"] ["row","begin","end","paper"] (aaC at6):=fsc
theorem sc__law_odd:FnScope ["_law_first","_law_last","_law_word","_law_way","_law_some"] ["_law_first","_law_last","_law_word","_law_way"] (aaC alH):=fsc
theorem sc__law_asked:FnScope ["_law_row","_law_begin","_law_end","_law_paper","_law_due","_law_handed","_law_found"] ["_law_row","_law_begin","_law_end","_law_paper","_law_due"] (aaC agS):=fsc
theorem sc__law_truths:FnScope ["_law_row","_law_first","_law_last","_law_odd_here"] [] (aaC afN):=fsc
theorem sc__law_right:FnScope ["_law_row","_law_moment_here","_law_cell","_law_mixed","_law_found","_law_paper","_law_end","_law_drawn","_law_at","_law_first","_law_last","_law_word","_law_j","_law_odd_here","_law_wrong","_law_great","_law_far"] ["_law_row","_law_moment_here","_law_cell","_law_mixed"] (aaC agR):=fsc
theorem sc_law:FnScope ["_law_script","_law_mixed","_law_k","_law_cells","_law_spec_here","_law_moment_here"] ["_law_script"] (aaC am2):=fsc
structure Fs(K:FG)(mg:Str->Option Value)(aJ aD aF aG aI aE aB aH aA aO aM aP aK aL a_MONTH_LASTS a_BOUNDS a_WORDS a_BOUNDS_0 a_BOUNDS_1 a_BOUNDS_3:Addr)(t_ROUND_DAYS t_ROUND_YEARS t_LONG_PLACE t_DAY_MINUTES t_HOUR_MINUTES t_FIGURES t_MOST_STRIDE t_MOST_SIGNS t_MOST_ITEMS t_SATURDAY t_SUNDAY t_MOST_BACK t_MOST_DAY t_SUNDAY_TOO t_MOST_NTH t_MOST_MARKS t_ALL_WEEKDAYS t_LONG_LAST t_SHORT_YEAR t_MINUTE t_HOUR t_DAY t_MONTH t_WEEKDAY t_MOST_ROW_SIGNS t_NO_PLACE t_MOST_MONTHS t_MOST_DAYS:Tok):Prop where
 ew:Cd K mg "Mark" aJ
 e2:PySem.W.findIn K (.ref aJ) "__init__"=some (some (.builtin "object.__init__"))
 ar:Cd K mg "Numbers" aD
 a4:PySem.W.findIn K (.ref aD) "mask"=some none
 as:Cd K mg "Last" aF
 aw:PySem.W.findIn K (.ref aF) "back"=some none
 ax:Cd K mg "Near" aG
 ay:PySem.W.findIn K (.ref aG) "day"=some none
 bb:Cd K mg "LastWork" aI
 dp:PySem.W.findIn K (.ref aI) "__init__"=some (some (.builtin "object.__init__"))
 ao:Cd K mg "Weekdays" aE
 az:PySem.W.findIn K (.ref aE) "mask"=some none
 a0:Cd K mg "Nth" aB
 a5:PySem.W.findIn K (.ref aB) "weekday"=some none
 bc:PySem.W.findIn K (.ref aB) "many"=some none
 au:Cd K mg "LastOne" aH
 av:PySem.W.findIn K (.ref aH) "weekday"=some none
 aa:Cd K mg "Row" aA
 ah:PySem.W.findIn K (.ref aA) "minute_mask"=some none
 aj:PySem.W.findIn K (.ref aA) "hour_mask"=some none
 a1:PySem.W.findIn K (.ref aA) "day_marks"=some none
 ai:PySem.W.findIn K (.ref aA) "month_mask"=some none
 ap:PySem.W.findIn K (.ref aA) "weekday_marks"=some none
 a2:PySem.W.findIn K (.ref aA) "time_mask"=some none
 aq:mg "read_weekday_mark"=some (.ref aO)
 a3:mg "read_day_mark"=some (.ref aM)
 ca:mg "MONTH_LASTS"=some (.ref a_MONTH_LASTS)
 a6:∀H,SqT K H a_MONTH_LASTS (([31,28,31,30,31,30,31,31,30,31,30,31]:List Int).map V.int)
 a7:mg "ROUND_DAYS"=some (.int 146097 t_ROUND_DAYS)
 cb:mg "ROUND_YEARS"=some (.int 400 t_ROUND_YEARS)
 a8:mg "LONG_PLACE"=some (.int 12 t_LONG_PLACE)
 ac:mg "DAY_MINUTES"=some (.int 1440 t_DAY_MINUTES)
 af:mg "HOUR_MINUTES"=some (.int 60 t_HOUR_MINUTES)
 eb:mg "FIGURES"=some (.str (Tx [48,49,50,51,52,53,54,55,56,57]) t_FIGURES)
 cc:mg "MOST_STRIDE"=some (.int 99 t_MOST_STRIDE)
 a9:mg "MOST_SIGNS"=some (.int 300 t_MOST_SIGNS)
 ak:mg "MOST_ITEMS"=some (.int 40 t_MOST_ITEMS)
 dq:mg "SATURDAY"=some (.int 6 t_SATURDAY)
 bo:mg "SUNDAY"=some (.int 0 t_SUNDAY)
 c7:mg "MOST_BACK"=some (.int 30 t_MOST_BACK)
 bd:mg "MOST_DAY"=some (.int 31 t_MOST_DAY)
 al:mg "SUNDAY_TOO"=some (.int 7 t_SUNDAY_TOO)
 dr:mg "MOST_NTH"=some (.int 5 t_MOST_NTH)
 cq:mg "MOST_MARKS"=some (.int 20 t_MOST_MARKS)
 bz:mg "ALL_WEEKDAYS"=some (.int 127 t_ALL_WEEKDAYS)
 c8:mg "LONG_LAST"=some (.int 29 t_LONG_LAST)
 cr:mg "SHORT_YEAR"=some (.int 1 t_SHORT_YEAR)
 en:mg "MINUTE"=some (.int 0 t_MINUTE)
 ex:mg "HOUR"=some (.int 1 t_HOUR)
 ds:mg "DAY"=some (.int 2 t_DAY)
 es:mg "MONTH"=some (.int 3 t_MONTH)
 bj:mg "WEEKDAY"=some (.int 4 t_WEEKDAY)
 eo:mg "BOUNDS"=some (.ref a_BOUNDS)
 ba:KD K a_BOUNDS [(0,.ref a_BOUNDS_0),(1,.ref a_BOUNDS_1),(3,.ref a_BOUNDS_3)]
 be:∀H,SqT K H a_BOUNDS_0 (([0,59]:List Int).map V.int)
 bf:∀H,SqT K H a_BOUNDS_1 (([0,23]:List Int).map V.int)
 bg:∀H,SqT K H a_BOUNDS_3 (([1,12]:List Int).map V.int)
 bp:mg "MOST_ROW_SIGNS"=some (.int 1600 t_MOST_ROW_SIGNS)
 dt:mg "NO_PLACE"=some (.int 5 t_NO_PLACE)
 cd:mg "MOST_MONTHS"=some (.int 492 t_MOST_MONTHS)
 et:mg "WORDS"=some (.ref a_WORDS)
 b0:∀H,SqT K H a_WORDS [.str (Tx [109,111,110,116,104]),.str (Tx [100,97,121]),.str (Tx [104,111,117,114]),.str (Tx [109,105,110,117,116,101])]
 c9:mg "MOST_DAYS"=some (.int 400 t_MOST_DAYS)
 cs:Host K mg aP aK aL
 du:mg "int"=none
 ae:mg "isinstance"=none
 ct:mg "bool"=none
 ab:mg "range"=none
 ey:mg "sum"=none
 dv:mg "all"=none
 an:mg "list"=none
 ag:mg "len"=none
 ad:mg "str"=none
 am:mg "enumerate"=none
 ez:mg "min"=none
 e0:mg "max"=none
 dw:mg "abs"=none
 eu:mg "tuple"=none
 ec:Fn K mg "is_long" anM ["year"]
 bk:Fn K mg "multiples_before" acO ["year","step"]
 ce:Fn K mg "days_before" af4 ["year"]
 ed:Fn K mg "last_of" anB ["year","month"]
 dx:Fn K mg "is_whole" ak1 ["thing"]
 ee:Fn K mg "is_date" anX ["year","month","day"]
 ep:Fn K mg "day_of" aqQ ["year","month","day"]
 ef:Fn K mg "year_of" anK ["day"]
 eg:Fn K mg "date_of" am9 ["day"]
 eh:Fn K mg "weekday" anE ["day"]
 da:Fn K mg "kind_from" aiL ["year","month","day"]
 ei:Fn K mg "kind_of" anC ["year","month"]
 eq:Fn K mg "parted" arB ["moment"]
 cf:Fn K mg "all_figures" afL ["text"]
 cu:Fn K mg "is_written" ag4 ["text"]
 e1:Fn K mg "has" aCZ ["mask","number"]
 ej:Fn K mg "mask_of" anF ["numbers"]
 cv:Fn K mg "numbers_in" ag8 ["mask"]
 dy:Fn K mg "run_mask" ak6 ["first","last","stride"]
 cg:Fn K mg "read_number" afO ["text","low","high"]
 dz:Fn K mg "read_run" alC ["text","low","high"]
 b1:Fn K mg "read_strided" aeR ["run_text","stride_text","low","high"]
 db:Fn K mg "read_item" aiJ ["item","low","high"]
 cw:Fn K mg "read_field" ag1 ["text","low","high"]
 cx:Fn K mg "weekday_at" agI ["day","first"]
 d0:Fn K mg "all_days" aj7 ["last"]
 b2:Fn K mg "nearest_work" aeE ["day","last","first"]
 dc:Fn K mg "first_one" aiD ["weekday","first"]
 dd:FnM K aJ "days" "Mark.days" aiU ["self","last","first"]
 bl:FnM K aD "__init__" "Numbers.__init__" acS ["self","mask"]
 b3:FnM K aD "days" "Numbers.days" aeF ["self","last","first"]
 bq:FnMD K aF "__init__" "Last.__init__" aa9 ["self","back"] [.int 0]
 de:FnM K aF "days" "Last.days" aiO ["self","last","first"]
 br:FnM K aG "__init__" "Near.__init__" ad3 ["self","day"]
 df:FnM K aG "days" "Near.days" aiQ ["self","last","first"]
 bs:FnM K aI "days" "LastWork.days" adV ["self","last","first"]
 bh:FnM K aE "__init__" "Weekdays.__init__" acA ["self","mask"]
 bt:FnM K aE "days" "Weekdays.days" adY ["self","last","first"]
 b4:FnM K aB "__init__" "Nth.__init__" aeZ ["self","weekday","many"]
 d1:FnM K aB "days" "Nth.days" akT ["self","last","first"]
 bm:FnM K aH "__init__" "LastOne.__init__" acX ["self","weekday"]
 b5:FnM K aH "days" "LastOne.days" aeL ["self","last","first"]
 d2:Fn K mg "any_days" ak4 ["marks","last","first"]
 bu:Fn K mg "read_day_mark" adX ["item"]
 b6:Fn K mg "read_weekday" aeO ["text"]
 bi:Fn K mg "read_weekday_mark" acF ["item"]
 cy:Fn K mg "read_items" agN ["text","low","high","read_mark"]
 dg:Fn K mg "read_days" aiC ["text"]
 bv:Fn K mg "read_weekdays" adW ["text"]
 d3:Fn K mg "month_at" akO ["kind"]
 d4:Fn K mg "times_of" alE ["hours","minutes"]
 ek:Fn K mg "days_by" anV ["days","weekdays","last","first"]
 b7:FnM K aA "__init__" "Row.__init__" aeB ["self","fields"]
 ch:FnM K aA "days_in" "Row.days_in" afP ["self","kind"]
 dh:Fn K mg "read_word" aiR ["word","place"]
 el:Fn K mg "read_at" anG ["word","place"]
 d5:Fn K mg "read_row" akZ ["text"]
 ci:FnM K aA "minutes" "Row.minutes" af3 ["self"]
 di:FnM K aA "hours" "Row.hours" aiN ["self"]
 cz:FnM K aA "months" "Row.months" ag3 ["self"]
 cj:FnM K aA "shut_by" "Row.shut_by" afZ ["self","moment"]
 c0:Fn K mg "next_month" ag9 ["year","month"]
 d6:Fn K mg "month_of" alO ["moment"]
 c1:Fn K mg "minutes_on" agP ["days"]
 er:Fn K mg "lowest" arU ["mask"]
 bw:Fn K mg "last_shut_day" adU ["row","day"]
 d7:Fn K mg "shut_end" akJ ["row","moment","word"]
 ck:Fn K mg "add_stretch" afV ["stretches","first","last","told"]
 d8:Fn K mg "paper_of" akU ["row","begin","end"]
 cl:FnM K aA "on_days" "Row.on_days" af0 ["self","kind"]
 c2:Fn K mg "minutes_by" agM ["known","on_days","kind"]
 d9:Fn K mg "first_at" akB ["on_days","moment"]
 dj:FnC K mg "next_from" aiK ["row","moment"] aP
 b8:Fn K mg "_law_cell_at" aeP ["_law_script","_law_k"]
 dk:Fn K mg "_law_stir" aiF ["_law_number"]
 cm:Fn K mg "_law_digits" afW ["_law_cell","_law_sizes","_law_mixed"]
 dl:Fn K mg "_law_item" aiB ["_law_parts","_law_low","_law_high"]
 b9:Fn K mg "_law_numbers" aeQ ["_law_cell","_law_low","_law_high","_law_mixed"]
 dm:Fn K mg "_law_days" aiP ["_law_cell","_law_mixed"]
 bx:Fn K mg "_law_weekdays" ad1 ["_law_cell","_law_mixed"]
 dn:Fn K mg "_law_spec" ah8 ["_law_cells","_law_mixed"]
 c3:Fn K mg "_law_start" agL ["_law_year"]
 cn:Fn K mg "_law_moment" afT ["_law_cell","_law_mixed"]
 c4:Fn K mg "is_stretch" ag0 ["thing"]
 bn:Fn K mg "goes_end_to_end" ac0 ["begin","end","paper"]
 co:Fn K mg "field_shuts" afU ["row","moment","word"]
 em:Fn K mg "is_shut" amZ ["row","first","last","word"]
 ev:Fn K mg "shuts" at6 ["row","begin","end","paper"]
 ea:Fn K mg "_law_odd" alH ["_law_first","_law_last","_law_word","_law_way"]
 c5:Fn K mg "_law_asked" agS ["_law_row","_law_begin","_law_end","_law_paper","_law_due"]
 cp:Fn K mg "_law_truths" afN []
 c6:Fn K mg "_law_right" agR ["_law_row","_law_moment_here","_law_cell","_law_mixed"]
section
set_option maxHeartbeats 4000000
variable{P:Program}{w:World}{K:FG}{mg:Str->Option Value}{base:Heap}{aJ aD aF aG aI aE aB aH aA aO aM aP aK aL a_MONTH_LASTS a_BOUNDS a_WORDS a_BOUNDS_0 a_BOUNDS_1 a_BOUNDS_3:Addr}{t_ROUND_DAYS t_ROUND_YEARS t_LONG_PLACE t_DAY_MINUTES t_HOUR_MINUTES t_FIGURES t_MOST_STRIDE t_MOST_SIGNS t_MOST_ITEMS t_SATURDAY t_SUNDAY t_MOST_BACK t_MOST_DAY t_SUNDAY_TOO t_MOST_NTH t_MOST_MARKS t_ALL_WEEKDAYS t_LONG_LAST t_SHORT_YEAR t_MINUTE t_HOUR t_DAY t_MONTH t_WEEKDAY t_MOST_ROW_SIGNS t_NO_PLACE t_MOST_MONTHS t_MOST_DAYS:Tok}(ZZ:Fs K mg aJ aD aF aG aI aE aB aH aA aO aM aP aK aL a_MONTH_LASTS a_BOUNDS a_WORDS a_BOUNDS_0 a_BOUNDS_1 a_BOUNDS_3 t_ROUND_DAYS t_ROUND_YEARS t_LONG_PLACE t_DAY_MINUTES t_HOUR_MINUTES t_FIGURES t_MOST_STRIDE t_MOST_SIGNS t_MOST_ITEMS t_SATURDAY t_SUNDAY t_MOST_BACK t_MOST_DAY t_SUNDAY_TOO t_MOST_NTH t_MOST_MARKS t_ALL_WEEKDAYS t_LONG_LAST t_SHORT_YEAR t_MINUTE t_HOUR t_DAY t_MONTH t_WEEKDAY t_MOST_ROW_SIGNS t_NO_PLACE t_MOST_MONTHS t_MOST_DAYS)
include ZZ
theorem akV:Df P w K mg base "is_long" 1 ["year"] (asY K):=by
 refine ZZ.ec.dfs as3 (fun vs H Q E h=>?_) (fun f cdv A outer s H vs Q E hr h=>?_)
 ·obtain⟨_,rfl,_⟩:=h
  rfl
 obtain⟨y,rfl,q⟩:=h
 refine⟨_,(ss1 (aaG (amW (ad5 oEq (eOp abL (v_ 0) eI) eI) (ai9 (eOr (ad5 oNe (eOp abL (v_ 0) eI) eI) (ai9 (ad5 oEq (eOp abL (v_ 0) eI) eI))))))),?_⟩
 refine⟨_,rfl,_,_,rfl,rfl,(by show (0:Int)<4;decide),rfl,_,rfl,?_⟩
 refine ifI (fun c1=>?_) (fun c1=>?_)
 ·refine⟨_,rfl,_,_,rfl,rfl,(by show (0:Int)<100;decide),rfl,_,rfl,?_⟩
  refine asQ (fun c2=>?_) (fun c2=>?_)
  ·rw[asA ⟨c1,.inl c2⟩] at q
   exact q
  ·refine⟨_,rfl,_,_,rfl,rfl,(by show (0:Int)<400;decide),rfl,?_⟩
   by_cases c3:y%400=0
   ·rw[asA ⟨c1,.inr c3⟩] at q
    show Q (.bl (decide (V.int (y%400)=V.int 0))) H
    rw[dQ (int_eq.mpr c3)]
    exact q
   ·rw[ap3 (by omega)] at q
    show Q (.bl (decide (V.int (y%400)=V.int 0))) H
    rw[dU fun e=>c3 (int_eq.mp e)]
    exact q
 ·rw[ap3 (by omega)] at q
  exact q
theorem abU:Df P w K mg base "multiples_before" 1 ["year","step"] (afD K):=by
 refine ZZ.bk.dfs afF (fun vs H Q E h=>?_) (fun f cdv A outer s H vs Q E hr h=>?_)
 ·obtain⟨_,_,rfl,_⟩:=h
  rfl
 obtain⟨y,z,rfl,hz,q⟩:=h
 refine⟨_,(ss1 (aaG (eOp agO (eOp abI (eOp aaM (v_ 0) (v_ 1)) eI) (v_ 1)))),?_⟩
 refine⟨_,rfl,_,rfl,_,_,rfl,rfl,_,_,rfl,rfl,_,rfl,_,_,rfl,rfl,hz,?_⟩
 exact q
theorem acL:Df P w K mg base "days_before" 2 ["year"] (alK K):=by
 refine ZZ.ce.dfs sc_days_before (fun vs H Q E h=>?_) (fun f cdv A outer s H vs Q E hr h=>?_)
 ·obtain⟨_,rfl,_⟩:=h
  rfl
 obtain⟨y,rfl,q⟩:=h
 refine⟨_,(ssC (aaH 1 (eOp aaM (eOp abI (eD (abU ZZ) hr (aC (v_ 0) (aC eI aN))) (eD (abU ZZ) hr (aC (v_ 0) (aC eI aN)))) (eD (abU ZZ) hr (aC (v_ 0) (aC eI aN)))) sc_days_before.nd)
   (ss1 (aaG (eOp aaM (eOp acG eI (v_ 0)) (v_ 1))))),?_⟩
 refine⟨_,rfl,_,_,rfl,⟨by decide,by decide⟩,_,rfl,_,_,rfl,⟨by decide,by decide⟩,_,_,rfl,rfl,_,rfl,_,_,rfl,⟨by decide,by decide⟩,_,_,rfl,rfl,?_⟩
 refine⟨_,rfl,_,_,rfl,rfl,.inl ⟨by decide,by decide⟩,_,rfl,_,_,rfl,rfl,?_⟩
 exact q
theorem acT:Df P w K mg base "last_of" 2 ["year","month"] (asN K):=by
 refine ZZ.ed.dfs atP (fun vs H Q E h=>?_) (fun f cdv A outer s H vs Q E hr h=>?_)
 ·obtain⟨_,_,rfl,_⟩:=h
  rfl
 obtain⟨y,m,rfl,⟨h1,h2⟩,q⟩:=h
 refine⟨_,(ssC (sIf (tW (al0 (tCm oEq (v_ 1) eI) (ah9 (tVa (eD (akV ZZ) hr (aC (v_ 0) aN)))))) (ss1 (aaG eI)) ssN)
   (ss1 (aaG (eIx xT (eGl (v:=.ref a_MONTH_LASTS) ZZ.ca rfl) (eOp abI (v_ 1) eI))))),?_⟩
 refine⟨_,rfl,rfl,_,rfl,?_⟩
 refine ifI (fun c1=>?_) (fun c1=>?_)
 ·refine⟨_,rfl,_,rfl,_,rfl,?_⟩
  by_cases c2:aa8 y=true
  ·have e:aaD y m=29:=by unfold aaD aaP;rw[if_pos c1,if_pos c2];rfl
   rw[e] at q
   show if aa8 y=true then _ else _
   rw[if_pos c2]
   exact q
  ·have e:aaD y m=lasts.getD (m-1).toNat 0:=by unfold aaD aaP;rw[if_pos c1,if_neg c2,c1];rfl
   rw[e] at q
   show if aa8 y=true then _ else _
   rw[if_neg c2]
   refine⟨_,rfl,_,_,rfl,rfl,a_MONTH_LASTS,_,_,_,rfl,rfl,ZZ.a6 H,arZ h1 h2,?_⟩
   exact q
 ·have e:aaD y m=lasts.getD (m-1).toNat 0:=by unfold aaD;rw[if_neg c1]
  rw[e] at q
  refine aa5 ?_
  refine⟨_,rfl,_,_,rfl,rfl,a_MONTH_LASTS,_,_,_,rfl,rfl,ZZ.a6 H,arZ h1 h2,?_⟩
  exact q
theorem ab5:Df P w K mg base "is_whole" 1 ["thing"] (aqE K):=by
 refine ZZ.dx.dfs asE (fun vs H Q E h=>?_) (fun f cdv A outer s H vs Q E hr h=>?_)
 ·obtain⟨_,_,rfl,_⟩:=h
  rfl
 obtain⟨v,k,rfl,hk,q⟩:=h
 refine⟨_,(ss1 (aaG (amW (eCB cIs ZZ.ae PyProof.Rows.boot_isinstance (aC (v_ 0) (aC (eTy ZZ.du PyProof.Rows.boot_int) aN))) (ai9 (ax0 (eCB cIs ZZ.ae PyProof.Rows.boot_isinstance (aC (v_ 0) (aC (eTy ZZ.ct PyProof.Rows.boot_bool) aN)))))))),?_⟩
 refine⟨_,rfl,v,.int,k,rfl,(by decide),hk,_,rfl,?_⟩
 cases k with
 |int=>exact aa2 ⟨_,rfl,v,.bool,.int,rfl,(by decide),hk,_,rfl,q⟩
 |bool=>exact aa2 ⟨_,rfl,v,.bool,.bool,rfl,(by decide),hk,_,rfl,q⟩
 |str=>exact aa5 q
 |non=>exact aa5 q
 |list=>exact aa5 q
 |tuple=>exact aa5 q
 |dict=>exact aa5 q
theorem atG:Df P w K mg base "is_date" 3 ["year","month","day"] (asX K):=by
 refine ZZ.ee.dfs atQ (fun vs H Q E h=>?_) (fun f cdv A outer s H vs Q E hr h=>?_)
 ·obtain⟨_,_,_,rfl,_⟩:=h
  rfl
 obtain⟨y,m,k,rfl,⟨hm,k1,k2⟩,q⟩:=h
 refine⟨_,(ssC (sIf (tNo (tW (al0 (tVa (eD (ab5 ZZ) hr (aC (v_ 0) aN))) (al0 (tVa (eD (ab5 ZZ) hr (aC (v_ 1) aN))) (ah9 (tVa (eD (ab5 ZZ) hr (aC (v_ 2) aN)))))))) (ss1 (aaG eB)) ssN)
   (ss1 (aaG (amW (eCh oLe oLe eI (v_ 1) eI) (ai9 (eCh oLe oLe eI (v_ 2) (eD (acT ZZ) hr (aC (v_ 0) (aC (v_ 1) aN))))))))),?_⟩
 refine⟨_,rfl,_,.int,rfl,rfl,_,rfl,aa2 ⟨_,rfl,_,.int,rfl,rfl,_,rfl,aa2 ⟨_,rfl,_,.int,rfl,rfl,_,rfl,aa5 ?_⟩⟩⟩
 refine⟨_,rfl,_,_,rfl,rfl,_,rfl,?_⟩
 rw[dQ hm.1]
 refine aa2 ⟨_,_,rfl,rfl,_,rfl,?_⟩
 rw[dQ hm.2]
 refine aa2 ⟨_,rfl,_,_,rfl,rfl,_,rfl,?_⟩
 rw[dQ k1]
 refine aa2 ⟨_,rfl,_,rfl,_,_,rfl,hm,_,_,rfl,rfl,?_⟩
 show Q (.bl (decide (k<=aaD y m))) H
 rw[dQ k2]
 exact q
theorem anO:Df P w K mg base "day_of" 4 ["year","month","day"] (awK K):=by
 refine ZZ.ep.dfs sc_day_of (fun vs H Q E h=>?_) (fun f cdv A outer s H vs Q E hr h=>?_)
 ·obtain⟨_,_,_,rfl,_⟩:=h
  rfl
 obtain⟨y,m,k,rfl,hv,q⟩:=h
 refine⟨_,(ssC (sIf (tNo (tVa (eD (atG ZZ) hr (aC (v_ 0) (aC (v_ 1) (aC (v_ 2) aN)))))) (ss1 aoY) ssN)
   (ssC (aaH 3 (eCB cSum ZZ.ey PyProof.Rows.boot_sum (aC (ar3 ["year"] [0] (iR2 ZZ.ab (aC eI (aC (v_ 1) aN))) (fun _ _ _ _ _ _=>fsN) (fun _ _ _ _ _ _=>(eD (acT ZZ) hr (aC (v_ 1) (aC (v_ 0) aN))))) aN)) sc_day_of.nd)
   (ss1 (aaG (eOp abI (eOp aaM (eOp aaM (eD (acL ZZ) hr (aC (v_ 0) aN)) (v_ 3)) (v_ 2)) eI))))),?_⟩
 obtain⟨⟨hm1,hm2⟩,hk⟩:=id hv
 refine⟨_,rfl,_,rfl,_,rfl,_,_,_,rfl,hv,_,rfl,aa5 ?_⟩
 refine⟨_,rfl,_,_,rfl,⟨by decide,by decide,by omega,by omega⟩,adF (fun i l=>l=(List.range i).map fun i:Nat=>V.int (aaD y (1+(i:Int)))) (by show (m-1).toNat<=sizeLine;rw[dN];omega) rfl ?_ ?_⟩
 ·intro i l D H2 E' F' hi hR hD s2 hl hE hF
  subst hR
  exact⟨_,rfl,_,rfl,_,_,rfl,⟨by omega,by omega⟩,hE _ _ (Same.refl _) (anD _ _).symm⟩
 ·intro D H2 l hR hD s2 hl
  subst hR
  refine⟨D,(List.range (m-1).toNat).map fun i:Nat=>aaD y (1+(i:Int)),rfl,SqL.of (by rw[hl,bZ];rfl),?_⟩
  refine⟨_,rfl,_,rfl,_,rfl,_,_,rfl,rfl,_,rfl,_,_,rfl,rfl,_,_,rfl,rfl,?_⟩
  have e:((List.range (m-1).toNat).map fun i:Nat=>aaD y (1+(i:Int))).sum=ahead y m:=auD y _
  rw[e]
  exact q _ s2
theorem atE:Df P w K mg base "year_of" 3 ["day"] (asH K):=by
 refine ZZ.ef.dfs sc_year_of (fun vs H Q E h=>?_) (fun f cdv A outer s H vs Q E hr h=>?_)
 ·obtain⟨_,rfl,_⟩:=h
  rfl
 obtain⟨d,rfl,q⟩:=h
 refine⟨_,(ssC (aaH 1 (eOp aaM (eOp acG (eOp agO (v_ 0) (eGl (v:=.int 146097) ZZ.a7 ⟨_,rfl⟩)) (eGl (v:=.int 400) ZZ.cb ⟨_,rfl⟩)) (eOp agO (eOp abL (v_ 0) (eGl (v:=.int 146097) ZZ.a7 ⟨_,rfl⟩)) eI)) sc_year_of.nd)
   (ssC (sWh (tCm oLe (eD (acL ZZ) hr (aC (eOp aaM (v_ 1) eI) aN)) (v_ 0)) (ss1 (aaH 1 (eOp aaM (v_ 1) eI) sc_year_of.nd)) PassesOwn.never)
   (ss1 (aaG (v_ 1))))),?_⟩
 refine⟨_,rfl,_,_,rfl,rfl,⟨by decide,by decide⟩,_,_,rfl,rfl,.inr ⟨by decide,by decide⟩,_,rfl,_,_,rfl,rfl,(by show (0:Int)<146097;decide),_,_,rfl,rfl,⟨by decide,by decide⟩,_,_,rfl,rfl,?_⟩
 refine ae9 (fun σ H'=>H'=H/\∃y:Int,σ=[some (.int d),some (.int y)]/\db y<=d) (fun σ _=>match σ with | [_,some (.int y)]=>(d-db y).toNat | _=>0) ?_ ?_
 ·refine⟨rfl,_,rfl,?_⟩
  have h1:=aD7 (q:=d / 146097) (z:=d%146097 / 366) (by omega)
  omega
 ·rintro σ H' ⟨rfl,y,rfl,hy⟩
  refine⟨_,rfl,_,_,rfl,rfl,_,rfl,_,rfl,_,_,rfl,rfl,_,rfl,?_⟩
  refine ifD (fun c=>?_) (fun c=>?_)
  ·refine⟨_,fun _ _ h=>h,?_⟩
   refine⟨_,rfl,_,_,rfl,rfl,?_⟩
   have h1:=ajN y
   have h2:=aqT y
   exact⟨_,(by show (d-db (y+1)).toNat<(d-db y).toNat;omega),rfl,rfl,_,rfl,c⟩
  ·exact⟨_,rfl,q y hy (by omega)⟩
theorem adG:Df P w K mg base "date_of" 4 ["day"] (atV K):=by
 refine ZZ.eg.dfs sc_date_of (fun vs H Q E h=>?_) (fun f cdv A outer s H vs Q E hr h=>?_)
 ·obtain⟨_,rfl,_⟩:=h
  rfl
 obtain⟨d,rfl,q⟩:=h
 refine⟨_,(ssC (aaH 1 (eD (atE ZZ) hr (aC (v_ 0) aN)) sc_date_of.nd)
   (ssC (aaH 2 eI sc_date_of.nd)
   (ssC (aaH 3 (eOp abI (v_ 0) (eD (acL ZZ) hr (aC (v_ 1) aN))) sc_date_of.nd)
   (ssC (sWh (tCm oGe (v_ 3) (eD (acT ZZ) hr (aC (v_ 1) (aC (v_ 2) aN)))) (ssC (aaH 3 (eOp abI (v_ 3) (eD (acT ZZ) hr (aC (v_ 1) (aC (v_ 2) aN)))) sc_date_of.nd)
   (ss1 (aaH 2 (eOp aaM (v_ 2) eI) sc_date_of.nd))) PassesOwn.never)
   (ss1 (aaG (aaQ (aC (v_ 1) (aC (v_ 2) (aC (eOp aaM (v_ 3) eI) aN)))))))))),?_⟩
 refine⟨_,rfl,_,rfl,fun y hy1 hy2=>?_⟩
 refine⟨_,rfl,_,rfl,_,rfl,_,_,rfl,rfl,?_⟩
 refine ae9 (fun σ H'=>H'=H/\∃m r:Int,σ=[some (.int d),some (.int y),some (.int m),some (.int r)]/\(1<=m/\m<=12)/\0<=r/\db y+ahead y m+r=d) (fun σ _=>match σ with | [_,_,some (.int m),_]=>(13-m).toNat | _=>0) ?_ ?_
 ·have a4:ahead y 1=0:=rfl
  exact⟨rfl,1,_,rfl,⟨by decide,by decide⟩,by omega,by omega⟩
 ·rintro σ H' ⟨rfl,m,r,rfl,hm,hr0,he⟩
  refine⟨_,rfl,_,rfl,_,rfl,_,_,rfl,hm,_,_,rfl,rfl,_,rfl,?_⟩
  have a1:=adD (y:=y) hm.1
  refine ifD (fun c=>?_) (fun c=>?_)
  ·have a2:=alJ y
   have a3:=ajN y
   have hm12:m<12:=by
    rcases Int.lt_or_le m 12 with z | z
    ·exact z
    ·have e12:m=12:=by omega
     subst e12
     have a5:ahead y (12+1)=ahead y 13:=rfl
     omega
   refine⟨_,fun _ _ h=>h,?_⟩
   refine⟨_,rfl,_,rfl,_,rfl,_,_,rfl,hm,_,_,rfl,rfl,?_⟩
   refine⟨_,rfl,_,_,rfl,rfl,?_⟩
   exact⟨_,(by show (13-(m+1)).toNat<(13-m).toNat;omega),rfl,rfl,m+1,r-aaD y m,rfl,⟨by omega,by omega⟩,by omega,by omega⟩
  ·refine⟨_,rfl,_,rfl,_,rfl,_,_,rfl,rfl,(zL 3),fun p hp=>?_⟩
   exact q y m (r+1) p _ ⟨hm,by omega,by omega⟩ (by unfold acI;omega) (aaB hp _) aaA
theorem at1:Df P w K mg base "weekday" 1 ["day"] (asT K):=by
 refine ZZ.eh.dfs as7 (fun vs H Q E h=>?_) (fun f cdv A outer s H vs Q E hr h=>?_)
 ·obtain⟨_,rfl,_⟩:=h
  rfl
 obtain⟨d,rfl,q⟩:=h
 refine⟨_,(ss1 (aaG (eOp abL (eOp aaM (v_ 0) eI) eI))),?_⟩
 exact⟨_,rfl,_,_,rfl,rfl,_,_,rfl,rfl,(by show (0:Int)<7;decide),q⟩
theorem ao9:Df P w K mg base "kind_from" 2 ["year","month","day"] (apO K):=by
 refine ZZ.da.dfs sc_kind_from (fun vs H Q E h=>?_) (fun f cdv A outer s H vs Q E hr h=>?_)
 ·obtain⟨_,_,_,rfl,_⟩:=h
  rfl
 obtain⟨y,m,d,rfl,q⟩:=h
 refine⟨_,(ssC (aaH 3 (eIf (tW (al0 (tCm oEq (v_ 1) eI) (ah9 (tVa (eD (akV ZZ) hr (aC (v_ 0) aN)))))) (eGl (v:=.int 12) ZZ.a8 ⟨_,rfl⟩) (eOp abI (v_ 1) eI)) sc_kind_from.nd)
   (ss1 (aaG (eOp aaM (eOp acG eI (v_ 3)) (eD (at1 ZZ) hr (aC (v_ 2) aN)))))),?_⟩
 have q':∀pl:Int,plc y m=pl->Q (.int (7*pl+(d+6)%7)) H:=fun pl e=>by
  rw[←e]
  exact q
 refine⟨_,rfl,rfl,_,rfl,?_⟩
 refine ifI (fun c1=>⟨_,rfl,_,rfl,_,rfl,?_⟩) (fun c1=>aa5 ?_)
 ·by_cases c2:aa8 y=true
  ·show if aa8 y=true then _ else _
   rw[if_pos c2]
   exact⟨_,rfl,_,_,rfl,rfl,.inl ⟨by decide,by decide⟩,_,rfl,_,rfl,_,_,rfl,rfl,q' _ (by unfold plc;rw[if_pos ⟨c1,c2⟩])⟩
  ·show if aa8 y=true then _ else _
   rw[if_neg c2]
   exact⟨_,rfl,_,_,rfl,rfl,_,rfl,_,_,rfl,rfl,.inl ⟨by decide,by decide⟩,_,rfl,_,rfl,_,_,rfl,rfl,q' _ (by unfold plc;rw[if_neg fun z=>c2 z.2])⟩
 ·exact⟨_,rfl,_,_,rfl,rfl,_,rfl,_,_,rfl,rfl,.inl ⟨by decide,by decide⟩,_,rfl,_,rfl,_,_,rfl,rfl,q' _ (by unfold plc;rw[if_neg fun z=>c1 z.1])⟩
theorem adP:Df P w K mg base "kind_of" 5 ["year","month"] (asU K):=by
 refine ZZ.ei.dfs asW (fun vs H Q E h=>?_) (fun f cdv A outer s H vs Q E hr h=>?_)
 ·obtain⟨_,_,rfl,_⟩:=h
  rfl
 obtain⟨y,m,rfl,hm,q⟩:=h
 refine⟨_,(ss1 (aaG (eD (ao9 ZZ) hr (aC (v_ 0) (aC (v_ 1) (aC (eD (anO ZZ) hr (aC (v_ 0) (aC (v_ 1) (aC eI aN)))) aN)))))),?_⟩
 have hl1:1<=aaD y m:=by have:=anT (y:=y) hm.1 hm.2;omega
 have e6:db y+ahead y m+1-1+6=db y+ahead y m+6:=by omega
 refine⟨_,rfl,_,rfl,_,rfl,_,rfl,_,_,_,rfl,⟨hm,by decide,hl1⟩,fun H' s'=>⟨_,_,_,rfl,?_⟩⟩
 rw[e6]
 exact q H' s'
theorem anR:Df P w K mg base "parted" 1 ["moment"] (avQ K):=by
 refine ZZ.eq.dfs sc_parted (fun vs H Q E h=>?_) (fun f cdv A outer s H vs Q E hr h=>?_)
 ·obtain⟨_,rfl,_⟩:=h
  rfl
 obtain⟨mo,rfl,q⟩:=h
 refine⟨_,(ssC (aaH 1 (eOp abL (v_ 0) (eGl (v:=.int 1440) ZZ.ac ⟨_,rfl⟩)) sc_parted.nd)
   (ss1 (aaG (aaQ (aC (eOp agO (v_ 0) (eGl (v:=.int 1440) ZZ.ac ⟨_,rfl⟩)) (aC (eOp agO (v_ 1) (eGl (v:=.int 60) ZZ.af ⟨_,rfl⟩)) (aC (eOp abL (v_ 1) (eGl (v:=.int 60) ZZ.af ⟨_,rfl⟩)) aN))))))),?_⟩
 refine⟨_,rfl,_,_,rfl,rfl,(by show (0:Int)<1440;decide),?_⟩
 exact⟨_,rfl,_,_,rfl,rfl,⟨by decide,by decide⟩,_,rfl,_,_,rfl,rfl,⟨by decide,by decide⟩,_,rfl,_,_,rfl,rfl,(by show (0:Int)<60;decide),(zL 3),fun p hp=>q p _ (aaB hp _) aaA⟩
theorem ak0:Df P w K mg base "all_figures" 1 ["text"] (aj4 K):=by
 refine ZZ.cf.dfs akG (fun vs H Q E h=>?_) (fun f cdv A outer s H vs Q E hr h=>?_)
 ·obtain⟨_,rfl,_⟩:=h
  rfl
 obtain⟨l,rfl,hl,q⟩:=h
 refine⟨_,(ss1 (aaG (amW (ad5 oNe (v_ 0) (eSx [])) (ai9 (eCB aHK ZZ.dv boot_all (aC (ar3 [] [] (iX (v_ 0)) (fun _ _ _ _ _ _=>fsN) (fun _ _ _ _ _ _=>(ad5 oInX (v_ 0) (eGl (v:=.str (Tx [48,49,50,51,52,53,54,55,56,57])) ZZ.eb ⟨_,rfl⟩)))) aN)))))),?_⟩
 refine⟨_,rfl,rfl,_,rfl,?_⟩
 rw[azM l []]
 by_cases c:l=[]
 ·rw[dQ c]
  have e:aoO l=false:=by unfold aoO;rw[dQ c];rfl
  rw[e] at q
  exact aa5 (q H (Same.refl H))
 ·rw[dU c]
  have e:aoO l=l.all afQ:=by unfold aoO;rw[dU c];rfl
  rw[e] at q
  refine aa2 ⟨_,rfl,Tx l,rfl,axI (xs:=l) (fun i z=>z=((l.take i).map afQ).map V.bl) (by rw[dN];omega) rfl ?_ ?_⟩
  ·intro i ch z D H2 E' F' hv hR hD s2 hz hE hF
   subst hR
   refine⟨_,rfl,ch,aFW,rfl,rfl,?_⟩
   rw[ayG]
   exact hE _ _ (Same.refl _) (by rw[cE,hv,bD,bD];rfl)
  ·intro D H2 z hR hD s2 hz
   subst hR
   rw[cQ] at hz
   refine⟨D,l.map afQ,rfl,SqL.of hz,?_⟩
   rw[List.all_map]
   exact q H2 s2
theorem afY:Df P w K mg base "is_written" 2 ["text"] (amU K):=by
 refine ZZ.cu.dfs alY (fun vs H Q E h=>?_) (fun f cdv A outer s H vs Q E hr h=>?_)
 ·obtain⟨_,rfl,_⟩:=h
  rfl
 obtain⟨l,rfl,hl,q⟩:=h
 refine⟨_,(ss1 (aaG (amW (eD (ak0 ZZ) hr (aC (v_ 0) aN)) (ai9 (eOr (ad5 oEq (v_ 0) (eSx [48])) (ai9 (ad5 oNe (eIx xX (v_ 0) eI) (eSx [48])))))))),?_⟩
 refine⟨_,rfl,l,rfl,hl,fun H1 s1=>⟨_,rfl,?_⟩⟩
 refine if2 (fun c=>?_) (fun c=>?_)
 ·have hne:l≠[]:=fun e=>by
   unfold aoO at c
   rw[dQ e] at c
   exact absurd (show false=true from c) a9
  refine⟨_,rfl,rfl,_,rfl,?_⟩
  rw[azM l [48]]
  by_cases c2:l=[48]
  ·rw[dQ c2]
   have e:isW l=true:=by unfold isW;rw[c,dQ c2];rfl
   rw[e] at q
   exact aa2 (q H1 s1)
  ·rw[dU c2]
   obtain⟨x,r,rfl⟩:∃x r,l=x::r:=by
    cases l with
    |nil=>exact absurd rfl hne
    |cons x r=>exact⟨x,r,rfl⟩
   refine aa5 ⟨_,rfl,x::r,0,x,rfl,rfl,(by rw[dN];omega),(show atI (x::r) ((0:Nat):Int)=some x from ae6 rfl),rfl,?_⟩
   rw[azM [x] [48]]
   have e:isW (x::r)= !decide ([x]=[48]):=by
    unfold isW
    rw[c,dU c2]
    show (!decide (x=48))=_
    rw[decide_eq_decide.mpr (show x=48↔[x]=[48] by simp)]
   rw[e] at q
   exact q H1 s1
 ·have e:isW l=false:=by unfold isW;rw[c];rfl
  rw[e] at q
  exact q H1 s1
theorem acN:Df P w K mg base "has" 1 ["mask","number"] (aFT K):=by
 refine ZZ.e1.dfs aD3 (fun vs H Q E h=>?_) (fun f cdv A outer s H vs Q E hr h=>?_)
 ·obtain⟨_,_,rfl,_⟩:=h
  rfl
 obtain⟨m,n,rfl,h0,q⟩:=h
 refine⟨_,(ss1 (aaG (ad5 oEq (eOp aw6 (eOp az1 (v_ 0) (v_ 1)) eI) eI))),?_⟩
 refine⟨_,rfl,_,rfl,_,_,rfl,rfl,h0.2,_,_,rfl,rfl,rfl,?_⟩
 have e:decide (V.int (Builtin.bitAnd (m / 2^n.toNat) 1)=V.int 1)=tb m n.toNat:=by
  rw[←aAG h0.1]
  exact decide_eq_decide.mpr int_eq
 show Q (.bl (decide (V.int (Builtin.bitAnd (m / 2^n.toNat) 1)=V.int 1))) H
 rw[e]
 exact q
theorem atO:Df P w K mg base "mask_of" 1 ["numbers"] (atB K):=by
 refine ZZ.ej.dfs sc_mask_of (fun vs H Q E h=>?_) (fun f cdv A outer s H vs Q E hr h=>?_)
 ·obtain⟨_,_,rfl,_⟩:=h
  rfl
 obtain⟨a,zs,rfl,hS,hz,q⟩:=h
 refine⟨_,(ssC (aaH 1 eI sc_mask_of.nd)
   (ssC (ad6 (iL (v_ 0)) (gN 2 sc_mask_of.nd) (ss1 (aaH 1 (eOp oOr (v_ 1) (eOp amQ eI (v_ 2))) sc_mask_of.nd)) PassesOwn.never)
   (ss1 (aaG (v_ 1))))),?_⟩
 refine⟨_,rfl,a,rfl,⟨_,hS⟩,acR (K:=K) (a:=a) (xs:=zs.map V.int) (fun i σ H2=>H2=H/\∃u:Option V,σ=[some (.ref a),some (.int (aaN (zs.take i))),u]) ⟨rfl,_,rfl⟩ (fun i σ H2 _ hP=>by rw[hP.1];exact hS) ?_ ?_⟩
 ·rintro i x σ H2 hx ⟨rfl,u,rfl⟩
  rw[bF] at hx
  cases ez:zs[i]? with
  |none=>rw[ez] at hx;cases hx
  |some z=>
   rw[ez] at hx
   obtain rfl:V.int z=x:=a8 hx
   have h:=hz z (bL ez)
   have et:aaN (zs.take (i+1))=Builtin.bitOr (aaN (zs.take i)) (1*2^z.toNat):=by
    rw[cE,ez,←asS]
    rfl
   exact⟨_,rfl,_,rfl,_,_,rfl,rfl,⟨h.1,by omega,by decide⟩,_,_,rfl,rfl,rfl,_,by rw[et];rfl⟩
 ·rintro σ H2 ⟨rfl,u,rfl⟩
  rw[aR,cQ]
  exact⟨_,rfl,q⟩
theorem amH:Df P w K mg base "numbers_in" 2 ["mask"] (amT K):=by
 refine ZZ.cv.dfs al3 (fun vs H Q E h=>?_) (fun f cdv A outer s H vs Q E hr h=>?_)
 ·obtain⟨_,rfl,_⟩:=h
  rfl
 obtain⟨m,rfl,hm,q⟩:=h
 refine⟨_,(ss1 (aaG (ar3 ["mask"] [0] (iR1 ZZ.ab (aC (eBL (v_ 0)) aN)) (fun _ _ _ _ _ _=>(fs1 (tVa (eD (acN ZZ) hr (aC (v_ 1) (aC (v_ 0) aN)))))) (fun _ _ _ _ _ _=>(v_ 0))))),?_⟩
 refine⟨_,rfl,rfl,_,rfl,rfl,_,rfl,by omega,by omega,adF (fun i z=>z=(flt (tb m) 0 i).map V.int) (by rw[dN,bQ];omega) aCG ?_ ?_⟩
 ·intro i z D H2 E' F' hi hR hD s2 hz hE hF
  subst hR
  refine⟨_,rfl,_,rfl,_,_,rfl,⟨hm.1,by omega⟩,_,rfl,?_⟩
  have e0:(0+(i:Int)).toNat=i:=by omega
  show if tb m (0+(i:Int)).toNat=true then _ else _
  rw[e0]
  by_cases c:tb m i=true
  ·rw[if_pos c]
   exact⟨_,rfl,hE _ _ (Same.refl _) (by rw[apP c,bD];rfl)⟩
  ·rw[if_neg c]
   exact hF _ (Same.refl _) (by rw[apB (by simpa using c)])
 ·intro D H2 z hR hD s2 hz
  subst hR
  rw[bQ] at hz
  exact q D H2 s2 hz
theorem aiE:Df P w K mg base "run_mask" 2 ["first","last","stride"] (aqC K):=by
 refine ZZ.dy.dfs ar6 (fun vs H Q E h=>?_) (fun f cdv A outer s H vs Q E hr h=>?_)
 ·obtain⟨_,_,_,rfl,_⟩:=h
  rfl
 obtain⟨a,b,st,rfl,ha,hb,hs,q⟩:=h
 refine⟨_,(ss1 (aaG (eD (atO ZZ) hr (aC (eCT cLR ZZ.an PyProof.Rows.boot_list (aC (eCT aBH ZZ.ab boot_range (aC (v_ 0) (aC (eOp aaM (v_ 1) eI) (aC (v_ 2) aN)))) aN)) aN)))),?_⟩
 obtain⟨n1,n2⟩:=adH ha.1 hb.2 hs.1
 have bd:∀z∈ab0 a b st,0<=z/\z<=100000:=fun z hz=>by
  have:=(apC hs.1).mp hz
  omega
 refine⟨_,rfl,_,rfl,_,_,rfl,rfl,_,rfl,_,_,_,rfl,⟨hs.1,by omega⟩,fun p hp=>⟨p,a,b+1,st,(Builtin.Range.rangeSize a (b+1) st).toNat,rfl,aaA,adB ha.1 ha.2 hb.1 hb.2 hs.1 hs.2,n2,(by omega),fun l hl=>⟨l,ab0 a b st,rfl,SqL.of (by rw[acH,bZ];exact aaA),bd,?_⟩⟩⟩
 exact q _ ((aaB hp _).trans (aaB hl _))
theorem abE:Df P w K mg base "read_number" 3 ["text","low","high"] (aj8 K):=by
 refine ZZ.cg.dfs sc_read_number (fun vs H Q E h=>?_) (fun f cdv A outer s H vs Q E hr h=>?_)
 ·obtain⟨_,_,_,rfl,_⟩:=h
  rfl
 obtain⟨l,lo,hi,rfl,hl,q⟩:=h
 refine⟨_,(ssC (sIf (tNo (tVa (eD (afY ZZ) hr (aC (v_ 0) aN)))) (ss1 (aaG eN)) ssN)
   (ssC (aaH 3 (eCT aGP ZZ.du PyProof.Rows.boot_int (aC (v_ 0) aN)) sc_read_number.nd)
   (ssC (sIf (tCh oLe oLe (v_ 1) (v_ 3) (v_ 2)) (ss1 (aaG (v_ 3))) ssN)
   (ss1 (aaG eN))))),?_⟩
 refine⟨_,rfl,l,rfl,(by omega),fun H1 s1=>⟨_,rfl,?_⟩⟩
 by_cases c:isW l=true
 ·rw[c]
  obtain⟨d1,d2⟩:=asJ c
  refine aa5 ⟨_,rfl,l,rfl,d1,d2,(by omega),?_⟩
  refine⟨_,rfl,_,rfl,_,_,rfl,rfl,_,rfl,?_⟩
  show if decide (lo<=dv l)=true then _ else _
  refine ifD (fun c1=>⟨_,rfl,_,_,rfl,rfl,_,rfl,?_⟩) (fun c1=>⟨_,rfl,?_⟩)
  ·show if decide (dv l<=hi)=true then _ else _
   refine ifD (fun c2=>?_) (fun c2=>?_)
   ·have e:aaZ lo hi l=some (dv l):=by unfold aaZ;rw[if_pos c,if_pos ⟨c1,c2⟩]
    rw[e] at q
    exact⟨_,rfl,q H1 s1⟩
   ·have e:aaZ lo hi l=none:=by unfold aaZ;rw[if_pos c,if_neg fun z=>c2 z.2]
    rw[e] at q
    exact q H1 s1
  ·have e:aaZ lo hi l=none:=by unfold aaZ;rw[if_pos c,if_neg fun z=>c1 z.1]
   rw[e] at q
   exact aa5 (q H1 s1)
 ·have c':isW l=false:=by simpa using c
  rw[c']
  have e:aaZ lo hi l=none:=by unfold aaZ;rw[if_neg c]
  rw[e] at q
  exact aa2 (q H1 s1)
theorem aiS:Df P w K mg base "read_run" 4 ["text","low","high"] (arY K):=by
 refine ZZ.dz.dfs sc_read_run (fun vs H Q E h=>?_) (fun f cdv A outer s H vs Q E hr h=>?_)
 ·obtain⟨_,_,_,rfl,_⟩:=h
  rfl
 obtain⟨l,lo,hi,rfl,hl,q⟩:=h
 refine⟨_,(ssC (sIf (tCm oEq (v_ 0) (eSx [42])) (ss1 (aaG (aaQ (aC (v_ 1) (aC (v_ 2) aN))))) ssN)
   (ssC (aC3 3 ["low","high"] [1,2] (iL (avT (v_ 0) (eSx [45]))) (fun _ _ _ _ _ _=>fsN) (fun _ _ _ _ _ _=>(eD (abE ZZ) hr (aC (v_ 0) (aC (v_ 1) (aC (v_ 2) aN))))) sc_read_run.nd)
   (ssC (sIf (tW (wOr (tCm oGt (eCB akK ZZ.ag PySem.boot_len (aC (v_ 3) aN)) eI) (wOr (tCm oIn eN (v_ 3)) (afJ (tCm oGt (eIx xL (v_ 3) eI) (eIx xL (v_ 3) (eUn aqK eI))))))) (ss1 (aaG eN)) ssN)
   (ss1 (aaG (aaQ (aC (eIx xL (v_ 3) eI) (aC (eIx xL (v_ 3) (eUn aqK eI)) aN)))))))),?_⟩
 refine⟨_,rfl,rfl,_,rfl,?_⟩
 rw[azM l [42]]
 by_cases c:l=[42]
 ·rw[dQ c]
  refine aa2 ⟨_,rfl,_,rfl,(zL 2),fun p hp=>?_⟩
  have e:aa3 lo hi l=some (lo,hi):=by unfold aa3;rw[if_pos c]
  rw[e] at q
  exact q _ _ (aaB hp _) ⟨p,rfl,aaA⟩
 rw[dU c]
 have hsl:=agV 45 l
 have eR:aa3 lo hi l=aiI ((spl 45 l).map (aaZ lo hi)):=by unfold aa3;rw[if_neg c]
 rw[eR] at q
 refine aa5 ⟨_,rfl,rfl,l,45,rfl,rfl,(by rw[dN];omega),fun ps hps=>⟨ps,rfl,⟨_,SqL.of aaA⟩,anU (xs:=(spl 45 l).map fun q=>V.str (Tx q)) (fun i z=>z=((spl 45 l).take i).map fun q=>oV (aaZ lo hi q)) (by rw[aR,dN];omega) rfl (SqL.of aaA) ?_ ?_⟩⟩
 ·intro i v z D H2 E' F' hv hR hD s2 hz hE hF
  subst hR
  rw[bF] at hv
  cases ew:(spl 45 l)[i]? with
  |none=>rw[ew] at hv;cases hv
  |some w0=>
   rw[ew] at hv
   obtain rfl:V.str (Tx w0)=v:=a8 hv
   have hw:=abW 45 l w0 (bL ew)
   exact⟨_,rfl,_,rfl,_,rfl,w0,lo,hi,rfl,(by omega),fun H3 s3=>hE _ _ s3 (by rw[cE,ew,bD];rfl)⟩
 intro D H2 z hR hD s2 hz
 subst hR
 rw[aR,cQ] at hz
 have hz2:H2 D=some (.lst (((spl 45 l).map (aaZ lo hi)).map oV)):=by rw[hz,bZ];rfl
 have hlen:((spl 45 l).map (aaZ lo hi)).length<=600:=by rw[aR];omega
 have hnn:(spl 45 l).map (aaZ lo hi)≠[]:=fun e=>aEJ 45 l (List.map_eq_nil_iff.mp e)
 generalize (spl 45 l).map (aaZ lo hi)=es at hz2 q hlen hnn
 have s02:Same H H2:=(aaB hps _).trans s2
 have hfl:(es.map oV).all afX=true:=aBT es
 refine⟨_,rfl,D,_,rfl,.inl (SqL.of hz2),_,_,rfl,rfl,_,rfl,?_⟩
 match es,hnn with
 |[],h=>exact absurd rfl h
 |[none],_=>
  refine aa5 ⟨_,rfl,D,_,rfl,.inl (SqL.of hz2),rfl,hfl,_,rfl,aa2 ?_⟩
  exact q _ _ s02 rfl
 |[some a],_=>
  refine aa5 ⟨_,rfl,D,_,rfl,.inl (SqL.of hz2),rfl,hfl,_,rfl,aa5 ⟨_,rfl,D,_,_,_,rfl,rfl,SqL.of hz2,rfl,_,rfl,_,rfl,D,_,_,_,rfl,rfl,SqL.of hz2,rfl,_,_,rfl,rfl,_,rfl,?_⟩⟩
  rw[dU (show ¬a<a by omega)]
  refine aa5 ⟨_,rfl,D,_,_,_,rfl,rfl,SqL.of hz2,rfl,_,rfl,_,rfl,D,_,_,_,rfl,rfl,SqL.of hz2,rfl,(zL 2),fun p hp=>?_⟩
  exact q _ _ (s02.trans (aaB hp _)) ⟨p,rfl,aaA⟩
 |[none,y],_=>
  refine aa5 ⟨_,rfl,D,_,rfl,.inl (SqL.of hz2),rfl,hfl,_,rfl,aa2 ?_⟩
  exact q _ _ s02 rfl
 |[some a,none],_=>
  refine aa5 ⟨_,rfl,D,_,rfl,.inl (SqL.of hz2),rfl,hfl,_,rfl,aa2 ?_⟩
  exact q _ _ s02 rfl
 |[some a,some b],_=>
  refine aa5 ⟨_,rfl,D,_,rfl,.inl (SqL.of hz2),rfl,hfl,_,rfl,aa5 ⟨_,rfl,D,_,_,_,rfl,rfl,SqL.of hz2,rfl,_,rfl,_,rfl,D,_,_,_,rfl,rfl,SqL.of hz2,rfl,_,_,rfl,rfl,_,rfl,?_⟩⟩
  refine ifD (fun c2=>?_) (fun c2=>?_)
  ·have e:aiI [some a,some b]=none:=by show (if b<a then none else some (a,b))=none;rw[if_pos c2]
   rw[e] at q
   exact q _ _ s02 rfl
  ·have e:aiI [some a,some b]=some (a,b):=by show (if b<a then none else some (a,b))=some (a,b);rw[if_neg c2]
   rw[e] at q
   refine⟨_,rfl,D,_,_,_,rfl,rfl,SqL.of hz2,rfl,_,rfl,_,rfl,D,_,_,_,rfl,rfl,SqL.of hz2,rfl,(zL 2),fun p hp=>?_⟩
   exact q _ _ (s02.trans (aaB hp _)) ⟨p,rfl,aaA⟩
 |x::y::u::r,_=>
  have e3:decide ((2:Int)<(((x::y::u::r).map oV).length:Nat))=true:=dQ (by rw[aR];show (2:Int)<((r.length+1+1+1:Nat):Int);omega)
  refine ifT e3 ?_
  have e:aiI (x::y::u::r)=none:=by cases x<;>cases y<;>rfl
  rw[e] at q
  exact q _ _ s02 rfl
theorem ajD:Df P w K mg base "read_strided" 5 ["run_text","stride_text","low","high"] (ai6 K):=by
 refine ZZ.b1.dfs sc_read_strided (fun vs H Q E h=>?_) (fun f cdv A outer s H vs Q E hr h=>?_)
 ·obtain⟨_,_,_,_,rfl,_⟩:=h
  rfl
 obtain⟨r,st,lo,hi,rfl,hr1,hs1,hb,q⟩:=h
 refine⟨_,(ssC (aaH 4 (eD (aiS ZZ) hr (aC (v_ 0) (aC (v_ 2) (aC (v_ 3) aN)))) sc_read_strided.nd)
   (ssC (aaH 5 (eD (abE ZZ) hr (aC (v_ 1) (aC eI (aC (eGl (v:=.int 99) ZZ.cc ⟨_,rfl⟩) aN)))) sc_read_strided.nd)
   (ssC (sIf (tW (wOr (tCm ag5 (v_ 4) eN) (afJ (tCm ag5 (v_ 5) eN)))) (ss1 (aaG eN)) ssN)
   (ssC (aaH 6 (eIf (tVa (eD (afY ZZ) hr (aC (v_ 0) aN))) (v_ 3) (eIx xT (v_ 4) eI)) sc_read_strided.nd)
   (ss1 (aaG (eD (aiE ZZ) hr (aC (eIx xT (v_ 4) eI) (aC (v_ 6) (aC (v_ 5) aN)))))))))),?_⟩
 refine⟨_,rfl,_,rfl,_,rfl,r,lo,hi,rfl,(by omega),fun rv H1 s1 hrv=>?_⟩
 refine⟨_,rfl,st,1,99,rfl,(by omega),fun H2 s2=>?_⟩
 cases er:aa3 lo hi r with
 |none=>
  rw[er] at hrv
  have hrv:rv=.non:=hrv
  subst hrv
  have e:abS lo hi r st=none:=by unfold abS;rw[er]
  rw[e] at q
  exact⟨_,rfl,rfl,_,rfl,aa2 (q H2 (s1.trans s2))⟩
 |some ab=>
  obtain⟨a,b⟩:=ab
  rw[er] at hrv
  obtain⟨p,rfl,hp⟩:=hrv
  have bd:=ak2 hb.2.1 er
  refine⟨_,rfl,rfl,_,rfl,ifF rfl ⟨_,rfl,rfl,_,rfl,?_⟩⟩
  cases es:aaZ 1 99 st with
  |none=>
   have e:abS lo hi r st=none:=by unfold abS;rw[er,es]
   rw[e] at q
   exact ifT rfl (q H2 (s1.trans s2))
  |some sv=>
   have bs:=ap8 es
   have hp2:=s2 _ _ hp
   refine ifF rfl ⟨_,rfl,r,rfl,(by omega),fun H3 s3=>⟨_,rfl,?_⟩⟩
   have hp3:=s3 _ _ hp2
   refine if2 (fun c=>?_) (fun c=>?_)
   ·have e:abS lo hi r st=some (ajF a hi sv):=by unfold abS;rw[er,es];show some (ajF a (if isW r=true then hi else b) sv)=_;rw[if_pos c]
    rw[e] at q
    refine⟨_,rfl,_,rfl,p,_,_,_,rfl,rfl,SqT.of hp3,rfl,_,rfl,_,rfl,a,hi,sv,rfl,⟨by omega,by omega⟩,⟨by omega,by omega⟩,⟨by omega,by omega⟩,fun H4 s4=>?_⟩
    exact q H4 (s1.trans (s2.trans (s3.trans s4)))
   ·have e:abS lo hi r st=some (ajF a b sv):=by unfold abS;rw[er,es];show some (ajF a (if isW r=true then hi else b) sv)=_;rw[if_neg (by rw[c];exact a9)]
    rw[e] at q
    refine⟨_,rfl,p,_,_,_,rfl,rfl,SqT.of hp3,rfl,_,rfl,p,_,_,_,rfl,rfl,SqT.of hp3,rfl,_,rfl,_,rfl,a,b,sv,rfl,⟨by omega,by omega⟩,⟨by omega,by omega⟩,⟨by omega,by omega⟩,fun H4 s4=>?_⟩
    exact q H4 (s1.trans (s2.trans (s3.trans s4)))
theorem agY:Df P w K mg base "read_item" 6 ["item","low","high"] (apM K):=by
 refine ZZ.db.dfs sc_read_item (fun vs H Q E h=>?_) (fun f cdv A outer s H vs Q E hr h=>?_)
 ·obtain⟨_,_,_,rfl,_⟩:=h
  rfl
 obtain⟨l,lo,hi,rfl,hl,hb,q⟩:=h
 refine⟨_,(ssC (aaH 3 (avT (v_ 0) (eSx [47])) sc_read_item.nd)
   (ssC (sIf (tCm oEq (eCB akK ZZ.ag PySem.boot_len (aC (v_ 3) aN)) eI) (ss1 (aaG (eD (ajD ZZ) hr (aC (eIx xL (v_ 3) eI) (aC (eIx xL (v_ 3) eI) (aC (v_ 1) (aC (v_ 2) aN))))))) ssN)
   (ssC (aaH 4 (eD (aiS ZZ) hr (aC (v_ 0) (aC (v_ 1) (aC (v_ 2) aN)))) sc_read_item.nd)
   (ssC (sIf (tCm ag5 (v_ 4) eN) (ss1 (aaG eN)) ssN)
   (ss1 (aaG (eD (aiE ZZ) hr (aC (eIx xT (v_ 4) eI) (aC (eIx xT (v_ 4) eI) (aC eI aN)))))))))),?_⟩
 have hsl:=agV 47 l
 have hml:=abW 47 l
 refine⟨_,rfl,rfl,l,47,rfl,rfl,(by rw[dN];omega),fun ps hps=>?_⟩
 have s0:=aaB hps (.lst ((spl 47 l).map fun q=>V.str (Tx q)))
 refine⟨_,rfl,ps,_,rfl,.inl (SqL.of aaA),rfl,_,rfl,?_⟩
 have two:(∃r s,spl 47 l=[r,s])∨(∀r s,spl 47 l≠[r,s]):=by
  by_cases z:∃r s,spl 47 l=[r,s]
  ·exact .inl z
  ·exact .inr fun r s e=>z ⟨r,s,e⟩
 rcases two with ⟨r,s,e2⟩ | hno
 ·have e:aaJ lo hi l=abS lo hi r s:=by unfold aaJ;rw[e2]
  rw[e] at q
  have h1:=hml r (by rw[e2];simp)
  have h2:=hml s (by rw[e2];simp)
  rw[e2]
  refine ifT rfl ⟨_,rfl,ps,_,_,_,rfl,rfl,SqL.of aaA,rfl,_,rfl,ps,_,_,_,rfl,rfl,SqL.of aaA,rfl,_,rfl,_,rfl,r,s,lo,hi,rfl,(by omega),(by omega),hb,fun H1 s1=>?_⟩
  exact q H1 ((aaB hps _).trans s1)
 ·have hlen:¬(spl 47 l).length=2:=fun e=>by
   match h:spl 47 l,e with
   |[r,s],_=>exact hno r s h
  have e:aaJ lo hi l=match aa3 lo hi l with | some (a,b)=>some (ajF a b 1) | none=>none:=by
   unfold aaJ
   split
   ·rename_i r s h
    exact absurd h (hno r s)
   ·rfl
  refine ifF (dU fun z=>hlen (by have z:=V.int.inj z;rw[aR] at z;omega)) ?_
  refine⟨_,rfl,_,rfl,_,rfl,l,lo,hi,rfl,(by omega),fun rv H1 s1 hrv=>?_⟩
  cases er:aa3 lo hi l with
  |none=>
   rw[er] at hrv e
   have hrv:rv=.non:=hrv
   subst hrv
   rw[e] at q
   exact⟨_,rfl,rfl,_,rfl,aa2 (q H1 (s0.trans s1))⟩
  |some ab=>
   obtain⟨a,b⟩:=ab
   rw[er] at hrv e
   obtain⟨p,rfl,hp⟩:=hrv
   have bd:=ak2 hb.2.1 er
   have e:aaJ lo hi l=some (ajF a b 1):=e
   rw[e] at q
   refine⟨_,rfl,rfl,_,rfl,ifF rfl ⟨_,rfl,p,_,_,_,rfl,rfl,SqT.of hp,rfl,_,rfl,p,_,_,_,rfl,rfl,SqT.of hp,rfl,a,b,1,rfl,⟨by omega,by omega⟩,⟨by omega,by omega⟩,⟨by decide,by decide⟩,fun H4 s4=>?_⟩⟩
   exact q H4 (s0.trans (s1.trans s4))
theorem amM:Df P w K mg base "read_field" 7 ["text","low","high"] (alU K):=by
 refine ZZ.cw.dfs sc_read_field (fun vs H Q E h=>?_) (fun f cdv A outer s H vs Q E hr h=>?_)
 ·obtain⟨_,_,_,rfl,_⟩:=h
  rfl
 obtain⟨l,lo,hi,rfl,hl,hb,⟨hk,hok⟩,q⟩:=h
 refine⟨_,(ssC (sIf (tW (wOr (tNo (tVa (eCB cIs ZZ.ae PyProof.Rows.boot_isinstance (aC (v_ 0) (aC (eTy ZZ.ad PyProof.Rows.boot_str) aN))))) (afJ (tCm oGt (eCB aw7 ZZ.ag PySem.boot_len (aC (v_ 0) aN)) (eGl (v:=.int 300) ZZ.a9 ⟨_,rfl⟩))))) (ss1 aoY) ssN)
   (ssC (aaH 3 (avT (v_ 0) (eSx [44])) sc_read_field.nd)
   (ssC (aaH 4 eI sc_read_field.nd)
   (ssC (ad6 (iE ZZ.am (eSl slL (v_ 3) poN (poS (eGl (v:=.int 40) ZZ.ak ⟨_,rfl⟩)))) (gTu (gsC (gN 5 sc_read_field.nd) (gsC (gN 6 sc_read_field.nd) gsN))) (ssC (aaH 7 (eD (agY ZZ) hr (aC (v_ 6) (aC (v_ 1) (aC (v_ 2) aN)))) sc_read_field.nd)
   (ssC (sIf (tCm ag5 (v_ 7) eN) (ss1 aoY) ssN)
   (ss1 (aaH 4 (eOp oOr (v_ 4) (v_ 7)) sc_read_field.nd)))) PassesOwn.never)
   (ssC (sIf (tCm oGt (eCB akK ZZ.ag PySem.boot_len (aC (v_ 3) aN)) (eGl (v:=.int 40) ZZ.ak ⟨_,rfl⟩)) (ss1 aoY) ssN)
   (ss1 (aaG (v_ 4)))))))),?_⟩
 have hml:=abW 44 l
 refine⟨_,rfl,_,.str,.str,rfl,(by decide),rfl,_,rfl,ifF rfl ⟨_,rfl,l,rfl,(by rw[dN];omega),_,_,rfl,rfl,_,rfl,?_⟩⟩
 rw[dU (show ¬(300:Int)<((l.length:Nat):Int) by omega)]
 refine aa5 ⟨_,rfl,rfl,l,44,rfl,rfl,(by rw[dN];omega),fun ps hps=>?_⟩
 have s0:=aaB hps (.lst ((spl 44 l).map fun q=>V.str (Tx q)))
 refine⟨_,rfl,_,rfl,ps,_,rfl,SqL.of aaA,fun pc hpc=>?_⟩
 have ecut:aaV ((spl 44 l).map fun q=>V.str (Tx q)) none (some 40)=(spl 44 l).map fun q=>V.str (Tx q):=aC1 (by rw[aR];exact hk)
 rw[ecut]
 have s1:=aaB hpc (.lst ((spl 44 l).map fun q=>V.str (Tx q)))
 refine⟨pc,rfl,⟨_,SqL.of aaA⟩,alR (K:=K) (a:=pc) (xs:=(spl 44 l).map fun q=>V.str (Tx q)) (fun i σ H2=>∃(u1 u2 u3:Option V),σ=[some (.str (Tx l)),some (.int lo),some (.int hi),some (.ref ps),some (.int (orM ((adO lo hi l).take i))),u1,u2,u3]/\Same (upd (upd H ps (.lst ((spl 44 l).map fun q=>V.str (Tx q)))) pc (.lst ((spl 44 l).map fun q=>V.str (Tx q)))) H2) ⟨_,_,_,rfl,Same.refl _⟩ (fun i σ H2 _ ⟨_,_,_,_,s2⟩=>SqL.of (s2 _ _ aaA)) ?_ ?_⟩
 ·rintro i x σ H2 T hx ⟨u1,u2,u3,rfl,s2⟩ hT
  rw[bF] at hx
  cases ew:(spl 44 l)[i]? with
  |none=>rw[ew] at hx;cases hx
  |some w0=>
   rw[ew] at hx
   obtain rfl:V.str (Tx w0)=x:=a8 hx
   have hw:=hml w0 (bL ew)
   obtain⟨m,em⟩:=cY.mp (hok w0 (bL ew))
   refine⟨T,_,rfl,SqT.of aaA,rfl,_,_,rfl,_,_,rfl,rfl,?_⟩
   refine⟨_,rfl,_,rfl,_,rfl,w0,lo,hi,rfl,(by omega),hb,fun H3 s3=>?_⟩
   rw[em]
   refine⟨_,rfl,rfl,_,rfl,ifF rfl ⟨_,rfl,_,rfl,_,_,rfl,rfl,?_⟩⟩
   have et:orM ((adO lo hi l).take (i+1))=Builtin.bitOr (orM ((adO lo hi l).take i)) m:=by
    rw[←aeI,cE]
    unfold adO
    rw[bF,ew]
    show orM (_++[(aaJ lo hi w0).getD 0])=_
    rw[em]
    rfl
   exact⟨_,_,_,by rw[et];rfl,s2.trans ((aaB hT _).trans s3)⟩
 ·rintro σ H2 ⟨u1,u2,u3,rfl,s2⟩
  refine⟨_,rfl,ps,_,rfl,.inl (SqL.of (s2 _ _ (s1 _ _ aaA))),_,_,rfl,rfl,_,rfl,?_⟩
  rw[dU (show ¬(40:Int)<((((spl 44 l).map fun q=>V.str (Tx q)).length:Nat):Int) by rw[aR];omega)]
  refine aa5 ⟨_,rfl,?_⟩
  rw[aR,show (spl 44 l).length=(adO lo hi l).length by unfold adO;rw[aR],cQ]
  exact q H2 (s0.trans (s1.trans s2))
theorem af2:Df P w K mg base "weekday_at" 1 ["day","first"] (amF K):=by
 refine ZZ.cx.dfs al8 (fun vs H Q E h=>?_) (fun f cdv A outer s H vs Q E hr h=>?_)
 ·obtain⟨_,_,rfl,_⟩:=h
  rfl
 obtain⟨d,f,rfl,q⟩:=h
 refine⟨_,(ss1 (aaG (eOp abL (eOp abI (eOp aaM (v_ 1) (v_ 0)) eI) eI))),?_⟩
 exact⟨_,rfl,_,rfl,_,_,rfl,rfl,_,_,rfl,rfl,_,_,rfl,rfl,(by show (0:Int)<7;decide),q⟩
theorem aeS:Df P w K mg base "all_days" 1 ["last"] (ap5 K):=by
 refine ZZ.d0.dfs arO (fun vs H Q E h=>?_) (fun f cdv A outer s H vs Q E hr h=>?_)
 ·obtain⟨_,rfl,_⟩:=h
  rfl
 obtain⟨l,rfl,hl,q⟩:=h
 refine⟨_,(ss1 (aaG (eOp abI (eOp amQ eI (v_ 0)) eI))),?_⟩
 exact⟨_,rfl,_,_,rfl,rfl,⟨by omega,by omega,by decide⟩,_,_,rfl,rfl,q⟩
theorem adZ:Df P w K mg base "nearest_work" 2 ["day","last","first"] (ajB K):=by
 refine ZZ.b2.dfs sc_nearest_work (fun vs H Q E h=>?_) (fun f cdv A outer s H vs Q E hr h=>?_)
 ·obtain⟨_,_,_,rfl,_⟩:=h
  rfl
 obtain⟨d,l,fi,rfl,q⟩:=h
 refine⟨_,(ssC (aaH 3 (eD (af2 ZZ) hr (aC (v_ 0) (aC (v_ 2) aN))) sc_nearest_work.nd)
   (ssC (sIf (tCm oEq (v_ 3) (eGl (v:=.int 6) ZZ.dq ⟨_,rfl⟩)) (ss1 (aaG (eIf (tCm oGt (v_ 0) eI) (eOp abI (v_ 0) eI) eI))) ssN)
   (ssC (sIf (tCm oEq (v_ 3) (eGl (v:=.int 0) ZZ.bo ⟨_,rfl⟩)) (ss1 (aaG (eIf (tCm oLt (v_ 0) (v_ 1)) (eOp aaM (v_ 0) eI) (eOp abI (v_ 1) eI)))) ssN)
   (ss1 (aaG (v_ 0)))))),?_⟩
 refine⟨_,rfl,_,rfl,_,_,rfl,?_⟩
 refine⟨_,rfl,rfl,_,rfl,ifI (fun c=>?_) (fun c=>?_)⟩
 ·refine⟨_,rfl,_,_,rfl,rfl,_,rfl,ifD (fun c2=>⟨_,rfl,_,_,rfl,rfl,?_⟩) (fun c2=>?_)⟩
  ·have e:nw d l fi=d-1:=by unfold nw;rw[if_pos c,if_pos c2]
   rw[e] at q
   exact q
  ·have e:nw d l fi=3:=by unfold nw;rw[if_pos c,if_neg c2]
   rw[e] at q
   exact q
 ·refine⟨_,rfl,rfl,_,rfl,ifI (fun c1=>?_) (fun c1=>?_)⟩
  ·refine⟨_,rfl,_,rfl,_,_,rfl,rfl,_,rfl,ifD (fun c2=>⟨_,rfl,_,_,rfl,rfl,?_⟩) (fun c2=>⟨_,rfl,_,_,rfl,rfl,?_⟩)⟩
   ·have e:nw d l fi=d+1:=by unfold nw;rw[if_neg c,if_pos c1,if_pos c2]
    rw[e] at q
    exact q
   ·have e:nw d l fi=l-2:=by unfold nw;rw[if_neg c,if_pos c1,if_neg c2]
    rw[e] at q
    exact q
  ·have e:nw d l fi=d:=by unfold nw;rw[if_neg c,if_neg c1]
   rw[e] at q
   exact⟨_,rfl,q⟩
theorem apJ:Df P w K mg base "first_one" 1 ["weekday","first"] (ao4 K):=by
 refine ZZ.dc.dfs aoT (fun vs H Q E h=>?_) (fun f cdv A outer s H vs Q E hr h=>?_)
 ·obtain⟨_,_,rfl,_⟩:=h
  rfl
 obtain⟨wd,fi,rfl,q⟩:=h
 refine⟨_,(ss1 (aaG (eOp aaM eI (eOp abL (eOp abI (v_ 0) (v_ 1)) eI)))),?_⟩
 exact⟨_,rfl,_,rfl,_,_,rfl,rfl,_,_,rfl,rfl,(by show (0:Int)<7;decide),_,_,rfl,rfl,q⟩
theorem apY:DfM P w K mg base aJ "days" 1 ["self","last","first"] (apA K aJ):=by
 refine ZZ.dd.dfs ao5 (fun vs H Q E h=>?_) (fun f cdv A outer s H vs Q E hr h=>?_)
 ·obtain⟨_,_,_,rfl,_⟩:=h
  rfl
 obtain⟨p,l,fi,rfl,q⟩:=h
 refine⟨_,(ss1 (aaG eI)),?_⟩
 exact q
theorem afC:DfM P w K mg base aD "__init__" 1 ["self","mask"] (afK K aD):=by
 refine ZZ.bl.dfs afI (fun vs H Q E h=>?_) (fun f cdv A outer s H vs Q E hr h=>?_)
 ·obtain⟨_,_,_,rfl,_⟩:=h
  rfl
 obtain⟨p,dx,m,rfl,hp,q⟩:=h
 refine⟨_,(ss1 (sFl (v_ 0) (v_ 1))),?_⟩
 exact⟨_,rfl,_,rfl,p,aD,dx,[],rfl,hp,ZZ.ar.cl,ZZ.a4,(by show 0<1000;decide),q⟩
theorem aiW:DfM P w K mg base aD "days" 2 ["self","last","first"] (ai8 K aD):=by
 refine ZZ.b3.dfs ai7 (fun vs H Q E h=>?_) (fun f cdv A outer s H vs Q E hr h=>?_)
 ·obtain⟨_,_,_,_,_,rfl,_⟩:=h
  rfl
 obtain⟨p,dx,m,l,fi,rfl,hp,hl,q⟩:=h
 refine⟨_,(ss1 (aaG (eOp aw6 (eFl (v_ 0)) (eD (aeS ZZ) hr (aC (v_ 1) aN))))),?_⟩
 exact⟨_,rfl,p,aD,dx,_,_,rfl,hp,ZZ.ar.cl,ZZ.a4,rfl,_,rfl,_,rfl,hl.1,_,_,rfl,rfl,q⟩
theorem ac9:DfMD P w K mg base aF "__init__" 1 ["self","back"] (ah1 K aF) [.int 0]:=by
 refine ZZ.bq.dfs ahB (fun vs H Q E h=>?_) (fun f cdv A outer s H vs Q E hr h=>?_)
 ·obtain⟨_,_,_,rfl,_⟩:=h
  rfl
 obtain⟨p,dx,m,rfl,hp,q⟩:=h
 refine⟨_,(ss1 (sFl (v_ 0) (v_ 1))),?_⟩
 exact⟨_,rfl,_,rfl,p,aF,dx,[],rfl,hp,ZZ.as.cl,ZZ.aw,(by show 0<1000;decide),q⟩
theorem aoI:DfM P w K mg base aF "days" 1 ["self","last","first"] (aoW K aF):=by
 refine ZZ.de.dfs apS (fun vs H Q E h=>?_) (fun f cdv A outer s H vs Q E hr h=>?_)
 ·obtain⟨_,_,_,_,_,rfl,_⟩:=h
  rfl
 obtain⟨p,dx,b,l,fi,rfl,hp,hb,hl,q⟩:=h
 refine⟨_,(ssC (sIf (tCm oGe (eFl (v_ 0)) (v_ 1)) (ss1 (aaG eI)) ssN)
   (ss1 (aaG (eOp amQ eI (eOp abI (v_ 1) (eFl (v_ 0))))))),?_⟩
 refine⟨_,rfl,p,aF,dx,_,_,rfl,hp,ZZ.as.cl,ZZ.aw,rfl,_,rfl,_,_,rfl,rfl,_,rfl,ifD (fun c=>?_) (fun c=>?_)⟩
 ·have e:arS b l=0:=by unfold arS;rw[if_pos c]
  rw[e] at q
  exact q
 ·have e:arS b l=1*2^(l-b).toNat:=by unfold arS;rw[if_neg c]
  rw[e] at q
  have:=hl.1.2
  exact⟨_,rfl,_,rfl,p,aF,dx,_,_,rfl,hp,ZZ.as.cl,ZZ.aw,rfl,_,_,rfl,rfl,_,_,rfl,rfl,⟨by omega,by omega,by decide⟩,q⟩
theorem ah2:DfM P w K mg base aG "__init__" 1 ["self","day"] (ahO K aG):=by
 refine ZZ.br.dfs ahD (fun vs H Q E h=>?_) (fun f cdv A outer s H vs Q E hr h=>?_)
 ·obtain⟨_,_,_,rfl,_⟩:=h
  rfl
 obtain⟨p,dx,m,rfl,hp,q⟩:=h
 refine⟨_,(ss1 (sFl (v_ 0) (v_ 1))),?_⟩
 exact⟨_,rfl,_,rfl,p,aG,dx,[],rfl,hp,ZZ.ax.cl,ZZ.ay,(by show 0<1000;decide),q⟩
theorem apX:DfM P w K mg base aG "days" 3 ["self","last","first"] (aoR K aG):=by
 refine ZZ.df.dfs aoA (fun vs H Q E h=>?_) (fun f cdv A outer s H vs Q E hr h=>?_)
 ·obtain⟨_,_,_,_,_,rfl,_⟩:=h
  rfl
 obtain⟨p,dx,d,l,fi,rfl,hp,ok,q⟩:=h
 refine⟨_,(ssC (sIf (tCm oGt (eFl (v_ 0)) (v_ 1)) (ss1 (aaG eI)) ssN)
   (ss1 (aaG (eOp amQ eI (eD (adZ ZZ) hr (aC (eFl (v_ 0)) (aC (v_ 1) (aC (v_ 2) aN)))))))),?_⟩
 refine⟨_,rfl,p,aG,dx,_,_,rfl,hp,ZZ.ax.cl,ZZ.ay,rfl,_,rfl,_,_,rfl,rfl,_,rfl,ifD (fun c=>?_) (fun c=>?_)⟩
 ·have e:aqR d l fi=0:=by unfold aqR;rw[if_pos c]
  rw[e] at q
  exact q
 ·have e:aqR d l fi=1*2^(nw d l fi).toNat:=by unfold aqR;rw[if_neg c]
  rw[e] at q
  have hn:=au3 ok (by omega)
  exact⟨_,rfl,p,aG,dx,_,_,rfl,hp,ZZ.ax.cl,ZZ.ay,rfl,_,rfl,_,rfl,_,_,_,rfl,_,_,rfl,rfl,⟨by omega,by omega,by decide⟩,q⟩
theorem ahM:DfM P w K mg base aI "days" 3 ["self","last","first"] (ahC K aI):=by
 refine ZZ.bs.dfs ahR (fun vs H Q E h=>?_) (fun f cdv A outer s H vs Q E hr h=>?_)
 ·obtain⟨_,_,_,_,rfl,_⟩:=h
  rfl
 obtain⟨p,dx,l,fi,rfl,hp,ok,q⟩:=h
 refine⟨_,(ss1 (aaG (eOp amQ eI (eD (adZ ZZ) hr (aC (v_ 1) (aC (v_ 1) (aC (v_ 2) aN))))))),?_⟩
 have hn:=au3 ok (aV _)
 exact⟨_,rfl,_,rfl,_,rfl,_,_,_,rfl,_,_,rfl,rfl,⟨by omega,by omega,by decide⟩,q⟩
theorem aeN:DfM P w K mg base aE "__init__" 1 ["self","mask"] (aeJ K aE):=by
 refine ZZ.bh.dfs aeG (fun vs H Q E h=>?_) (fun f cdv A outer s H vs Q E hr h=>?_)
 ·obtain⟨_,_,_,rfl,_⟩:=h
  rfl
 obtain⟨p,dx,m,rfl,hp,q⟩:=h
 refine⟨_,(ss1 (sFl (v_ 0) (v_ 1))),?_⟩
 exact⟨_,rfl,_,rfl,p,aE,dx,[],rfl,hp,ZZ.ao.cl,ZZ.az,(by show 0<1000;decide),q⟩
theorem ahG:DfM P w K mg base aE "days" 2 ["self","last","first"] (ahH K aE):=by
 refine ZZ.bt.dfs sc_Weekdays_days (fun vs H Q E h=>?_) (fun f cdv A outer s H vs Q E hr h=>?_)
 ·obtain⟨_,_,_,_,_,rfl,_⟩:=h
  rfl
 obtain⟨p,dx,m,l,fi,rfl,hp,hm,⟨hl,hf⟩,q⟩:=h
 refine⟨_,(ssC (aaH 3 eI sc_Weekdays_days.nd)
   (ssC (ad6 (iR1 ZZ.ab (aC eI aN)) (gN 4 sc_Weekdays_days.nd) (ss1 (aaH 3 (eOp oOr (v_ 3) (eOp amQ (eFl (v_ 0)) (eOp acG eI (v_ 4)))) sc_Weekdays_days.nd)) PassesOwn.never)
   (ss1 (aaG (eOp aw6 (eOp amQ (eOp az1 (v_ 3) (v_ 2)) eI) (eD (aeS ZZ) hr (aC (v_ 1) aN))))))),?_⟩
 have hb:=az7 m (aF6 hm.1 hm.2)
 refine⟨_,rfl,by decide,by decide,ab2 (fun i σ H2=>H2=H/\∃u:Option V,σ=[some (.ref p),some (.int l),some (.int fi),some (.int (wks m i)),u]) ⟨rfl,_,rfl⟩ ?_ ?_⟩
 ·rintro i σ H2 hi ⟨rfl,u,rfl⟩
  have hi':i<6:=hi
  exact⟨_,rfl,_,rfl,p,aE,dx,_,_,rfl,hp,ZZ.ao.cl,ZZ.az,rfl,_,rfl,_,_,rfl,rfl,.inl ⟨by decide,by decide⟩,_,_,rfl,rfl,⟨by omega,by omega,(by show m.natAbs<2^64;omega)⟩,_,_,rfl,rfl,rfl,_,rfl⟩
 ·rintro σ H2 ⟨rfl,u,rfl⟩
  exact⟨_,rfl,_,rfl,_,_,rfl,rfl,hf.1,_,_,rfl,rfl,⟨by decide,by decide,hb.2 fi (al2 hf.1 hf.2)⟩,_,rfl,_,rfl,hl,_,_,rfl,rfl,q⟩
theorem ai4:DfM P w K mg base aB "__init__" 1 ["self","weekday","many"] (aiY K aB):=by
 refine ZZ.b4.dfs ajH (fun vs H Q E h=>?_) (fun f cdv A outer s H vs Q E hr h=>?_)
 ·obtain⟨_,_,_,_,rfl,_⟩:=h
  rfl
 obtain⟨p,dx,wd,m,rfl,hp,q⟩:=h
 refine⟨_,(ssC (sFl (v_ 0) (v_ 1))
   (ss1 (sFl (v_ 0) (v_ 2)))),?_⟩
 exact⟨_,rfl,_,rfl,p,aB,dx,[],rfl,hp,ZZ.a0.cl,ZZ.a5,(by show 0<1000;decide),_,rfl,_,rfl,p,aB,dx,_,rfl,aaA,ZZ.a0.cl,ZZ.bc,(by show 1<1000;decide),q⟩
theorem aqO:DfM P w K mg base aB "days" 2 ["self","last","first"] (ar9 K aB):=by
 refine ZZ.d1.dfs sc_Nth_days (fun vs H Q E h=>?_) (fun f cdv A outer s H vs Q E hr h=>?_)
 ·obtain⟨_,_,_,_,_,_,rfl,_⟩:=h
  rfl
 obtain⟨p,dx,wd,m,l,fi,rfl,hp,hw,hm,⟨hl,hf⟩,q⟩:=h
 refine⟨_,(ssC (aaH 3 (eOp aaM (eD (apJ ZZ) hr (aC (eFl (v_ 0)) (aC (v_ 2) aN))) (eOp acG eI (eOp abI (eFl (v_ 0)) eI))) sc_Nth_days.nd)
   (ssC (sIf (tCm oGt (v_ 3) (v_ 1)) (ss1 (aaG eI)) ssN)
   (ss1 (aaG (eOp amQ eI (v_ 3)))))),?_⟩
 have hn:=aAY l (atA hl.1 hl.2) fi (al2 hf.1 hf.2) wd (al2 hw.1 hw.2) m (in_m hm.1 hm.2)
 refine⟨_,rfl,p,aB,dx,_,_,rfl,hp,ZZ.a0.cl,ZZ.a5,aEQ _ _,_,rfl,_,_,rfl,_,rfl,p,aB,dx,_,_,rfl,hp,ZZ.a0.cl,ZZ.bc,aEY _ _,_,_,rfl,rfl,_,_,rfl,rfl,.inl ⟨by decide,by decide⟩,_,_,rfl,rfl,?_⟩
 refine⟨_,rfl,_,rfl,_,_,rfl,rfl,_,rfl,ifD (fun c=>?_) (fun c=>?_)⟩
 ·have e:an5 wd m l fi=0:=by unfold an5;rw[if_pos (show l<adM wd m fi from c)]
  rw[e] at q
  exact q
 ·have e:an5 wd m l fi=1*2^(adM wd m fi).toNat:=by unfold an5;rw[if_neg (show ¬l<adM wd m fi from c)]
  rw[e] at q
  exact⟨_,rfl,_,_,rfl,rfl,⟨hn.2.2.1,cC hn.2.2.2 (by decide),by decide⟩,q⟩
theorem afB:DfM P w K mg base aH "__init__" 1 ["self","weekday"] (afE K aH):=by
 refine ZZ.bm.dfs afH (fun vs H Q E h=>?_) (fun f cdv A outer s H vs Q E hr h=>?_)
 ·obtain⟨_,_,_,rfl,_⟩:=h
  rfl
 obtain⟨p,dx,m,rfl,hp,q⟩:=h
 refine⟨_,(ss1 (sFl (v_ 0) (v_ 1))),?_⟩
 exact⟨_,rfl,_,rfl,p,aH,dx,[],rfl,hp,ZZ.au.cl,ZZ.av,(by show 0<1000;decide),q⟩
theorem ai1:DfM P w K mg base aH "days" 2 ["self","last","first"] (ajC K aH):=by
 refine ZZ.b5.dfs ai3 (fun vs H Q E h=>?_) (fun f cdv A outer s H vs Q E hr h=>?_)
 ·obtain⟨_,_,_,_,_,rfl,_⟩:=h
  rfl
 obtain⟨p,dx,wd,l,fi,rfl,hp,hw,⟨hl,hf⟩,q⟩:=h
 refine⟨_,(ss1 (aaG (eOp amQ eI (eOp abI (v_ 1) (eOp abL (eOp abI (eD (af2 ZZ) hr (aC (v_ 1) (aC (v_ 2) aN))) (eFl (v_ 0))) eI))))),?_⟩
 have hn:=aBL l (atA hl.1 hl.2) fi (al2 hf.1 hf.2) wd (al2 hw.1 hw.2)
 exact⟨_,rfl,_,rfl,_,rfl,_,_,rfl,_,rfl,p,aH,dx,_,_,rfl,hp,ZZ.au.cl,ZZ.av,rfl,_,_,rfl,rfl,_,_,rfl,rfl,(by show (0:Int)<7;decide),_,_,rfl,rfl,_,_,rfl,rfl,⟨hn.2.1,cC hn.2.2 (by decide),by decide⟩,q⟩
theorem ar4:Df P w K mg base "any_days" 4 ["marks","last","first"] (aq2 K aD aF aG aI aE aB aH aJ):=by
 refine ZZ.d2.dfs sc_any_days (fun vs H Q E h=>?_) (fun f cdv A outer s H vs Q E hr h=>?_)
 ·obtain⟨_,_,_,_,_,rfl,_⟩:=h
  rfl
 obtain⟨b,ps,ks,l,fi,rfl,hB,fM,oM,hlf,q⟩:=h
 refine⟨_,(ssC (aaH 3 eI sc_any_days.nd)
   (ssC (ad6 (iL (v_ 0)) (gN 4 sc_any_days.nd) (ss1 (aaH 3 (eOp oOr (v_ 3) (ar1 (eMe ZZ.ar.cl (aiW ZZ) hr (v_ 4) (aC (v_ 1) (aC (v_ 2) aN))) (ar1 (eMe ZZ.as.cl (aoI ZZ) hr (v_ 4) (aC (v_ 1) (aC (v_ 2) aN))) (ar1 (eMe ZZ.ax.cl (apX ZZ) hr (v_ 4) (aC (v_ 1) (aC (v_ 2) aN))) (ar1 (eMe ZZ.bb.cl (ahM ZZ) hr (v_ 4) (aC (v_ 1) (aC (v_ 2) aN))) (ar1 (eMe ZZ.ao.cl (ahG ZZ) hr (v_ 4) (aC (v_ 1) (aC (v_ 2) aN))) (ar1 (eMe ZZ.a0.cl (aqO ZZ) hr (v_ 4) (aC (v_ 1) (aC (v_ 2) aN))) (ar1 (eMe ZZ.au.cl (ai1 ZZ) hr (v_ 4) (aC (v_ 1) (aC (v_ 2) aN))) (eMe ZZ.ew.cl (apY ZZ) hr (v_ 4) (aC (v_ 1) (aC (v_ 2) aN))))))))))) sc_any_days.nd)) PassesOwn.never)
   (ss1 (aaG (v_ 3))))),?_⟩
 refine⟨_,rfl,b,rfl,⟨_,hB⟩,acR (K:=K) (a:=b) (xs:=ps.map V.ref) (fun i σ H2=>H2=H/\∃u4:Option V,σ=[some (.ref b),some (.int l),some (.int fi),some (.int (orK (ks.take i) l fi)),u4]) ⟨rfl,_,rfl⟩ (fun i σ H2 _ hP=>by rw[hP.1];exact hB) ?turn ?done⟩
 case done=>
  rintro σ H2 ⟨rfl,u4,rfl⟩
  have el:(ps.map V.ref).length=ks.length:=by rw[aR];exact Paired.length fM
  rw[el,cQ]
  exact⟨_,rfl,q⟩
 case turn=>
  rintro i x σ H2 hx ⟨rfl,u4,rfl⟩
  rw[bF] at hx
  cases ez:ps[i]? with
  |none=>rw[ez] at hx;cases hx
  |some p=>
   rw[ez] at hx
   obtain rfl:V.ref p=x:=a8 hx
   obtain⟨k,ek,hk⟩:=Ft.get fM ez
   have hok:=oM k (bL ek)
   have et:orK (ks.take (i+1)) l fi=Builtin.bitOr (orK (ks.take i) l fi) (k.due l fi):=by
    rw[cE,ek]
    exact azR _ _ _ _
   rw[et]
   cases k with
   |num m=>
    obtain⟨dx,hp⟩:=hk
    exact⟨_,rfl,(.inl ⟨_,rfl,p,dx,_,rfl,hp,rfl,_,rfl,_,rfl,p,dx,m,l,fi,rfl,hp,hlf,_,_,rfl,rfl,rfl,_,rfl⟩)⟩
   |lst b=>
    obtain⟨dx,hp⟩:=hk
    exact⟨_,rfl,(.inr (.inl ⟨_,rfl,p,dx,_,rfl,hp,rfl,_,rfl,_,rfl,p,dx,b,l,fi,rfl,hp,hok,hlf,_,_,rfl,rfl,rfl,_,rfl⟩))⟩
   |nea d=>
    obtain⟨dx,hp⟩:=hk
    exact⟨_,rfl,(.inr (.inr (.inl ⟨_,rfl,p,dx,_,rfl,hp,rfl,_,rfl,_,rfl,p,dx,d,l,fi,rfl,hp,⟨hok,hlf⟩,_,_,rfl,rfl,rfl,_,rfl⟩)))⟩
   |wrk=>
    obtain⟨dx,hp⟩:=hk
    exact⟨_,rfl,(.inr (.inr (.inr (.inl ⟨_,rfl,p,dx,_,rfl,hp,rfl,_,rfl,_,rfl,p,dx,l,fi,rfl,hp,hlf.last,_,_,rfl,rfl,rfl,_,rfl⟩))))⟩
   |wkd m=>
    obtain⟨dx,hp⟩:=hk
    exact⟨_,rfl,(.inr (.inr (.inr (.inr (.inl ⟨_,rfl,p,dx,_,rfl,hp,rfl,_,rfl,_,rfl,p,dx,m,l,fi,rfl,hp,hok,hlf,_,_,rfl,rfl,rfl,_,rfl⟩)))))⟩
   |nth w m=>
    obtain⟨dx,hp⟩:=hk
    exact⟨_,rfl,(.inr (.inr (.inr (.inr (.inr (.inl ⟨_,rfl,p,dx,_,rfl,hp,aB9 _ _,_,rfl,_,rfl,p,dx,w,m,l,fi,rfl,hp,hok.1,hok.2,hlf,_,_,rfl,rfl,rfl,_,rfl⟩))))))⟩
   |one w=>
    obtain⟨dx,hp⟩:=hk
    exact⟨_,rfl,(.inr (.inr (.inr (.inr (.inr (.inr (.inl ⟨_,rfl,p,dx,_,rfl,hp,rfl,_,rfl,_,rfl,p,dx,w,l,fi,rfl,hp,hok,hlf,_,_,rfl,rfl,rfl,_,rfl⟩)))))))⟩
   |nil=>
    obtain⟨dx,hp⟩:=hk
    exact⟨_,rfl,(.inr (.inr (.inr (.inr (.inr (.inr (.inr ⟨_,rfl,p,dx,_,rfl,hp,rfl,_,rfl,_,rfl,p,l,fi,rfl,_,_,rfl,rfl,rfl,_,rfl⟩)))))))⟩
theorem ah7:Df P w K mg base "read_day_mark" 4 ["item"] (ah5 K aD aF aG aI aE aB aH aJ):=by
 refine ZZ.bu.dfs sc_read_day_mark (fun vs H Q E h=>?_) (fun f cdv A outer s H vs Q E hr h=>?_)
 ·obtain⟨_,rfl,_⟩:=h
  rfl
 obtain⟨t,rfl,hl,q⟩:=h
 refine⟨_,(ssC (sIf (tCm oEq (v_ 0) (eSx [76])) (ss1 (aaG (eMkD ZZ.as (ac9 ZZ) hr))) ssN)
   (ssC (sIf (tCm oEq (v_ 0) (eSx [76,87])) (ss1 (aaG (eMkN ZZ.bb ZZ.dp))) ssN)
   (ssC (sIf (tVa (eSwN (v_ 0) (eSx [76,45]))) (ssC (aaH 1 (eD (abE ZZ) hr (aC (eSl slX (v_ 0) (poS eI) poN) (aC eI (aC (eGl (v:=.int 30) ZZ.c7 ⟨_,rfl⟩) aN)))) sc_read_day_mark.nd)
   (ss1 (aaG (eIf (tCm ag5 (v_ 1) eN) eN (eMk ZZ.as (ac9 ZZ).dfm hr (aC (v_ 1) aN)))))) ssN)
   (ssC (sIf (tVa (eEw (v_ 0) (eSx [87]))) (ssC (aaH 2 (eD (abE ZZ) hr (aC (eSl slX (v_ 0) poN (poS (eUn aqK eI))) (aC eI (aC (eGl (v:=.int 31) ZZ.bd ⟨_,rfl⟩) aN)))) sc_read_day_mark.nd)
   (ss1 (aaG (eIf (tCm ag5 (v_ 2) eN) eN (eMk ZZ.ax (ah2 ZZ) hr (aC (v_ 2) aN)))))) ssN)
   (ss1 (aaG eN)))))),?_⟩
 have hz:t.length<=sizeLine:=by rw[dN];omega
 have hc1:=agT t (some 2) none
 have hc2:=agT t none (some (-1))
 refine⟨_,rfl,rfl,_,rfl,ifX (fun c=>?a0) (fun c1=>⟨_,rfl,rfl,_,rfl,ifX (fun c=>?a1) (fun c2=>⟨_,rfl,rfl,t,[76,45],rfl,rfl,_,rfl,ifD (fun c=>?a2) (fun c3=>⟨_,rfl,rfl,t,87,rfl,rfl,_,rfl,ifD (fun c=>?a3) (fun c4=>?a4)⟩)⟩)⟩)⟩
 case a0=>
  have e:ac7 t=some (.lst 0):=by unfold ac7;rw[if_pos c]
  rw[e] at q
  exact fun xo dx nx ndx nex=>⟨xo,dx,0,rfl,aaA,rfl,q _ _ (acY nx ndx) ⟨xo,rfl,dx,aaA⟩⟩
 case a1=>
  have e:ac7 t=some .wrk:=by unfold ac7;rw[if_neg c1,if_pos c]
  rw[e] at q
  exact fun xo dx nx ndx nex=>q _ _ (alF nx ndx) ⟨xo,rfl,dx,aaA⟩
 case a2=>
  have e:ac7 t=(aaZ 1 30 (afA t (some 2) none)).map Mk.lst:=by unfold ac7;rw[if_neg c1,if_neg c2,if_pos c]
  rw[e] at q
  refine⟨_,rfl,_,rfl,t,rfl,hz,_,1,30,rfl,(by omega),fun H1 s1=>?_⟩
  cases en:aaZ 1 30 (afA t (some 2) none) with
  |none=>
   rw[en] at q
   exact⟨_,rfl,rfl,_,rfl,ifT rfl (q _ _ s1 rfl)⟩
  |some b=>
   rw[en] at q
   exact⟨_,rfl,rfl,_,rfl,ifF rfl ⟨_,rfl,fun xo dx nx ndx nex=>⟨xo,dx,_,rfl,aaA,rfl,q _ _ (s1.trans (acY nx ndx)) ⟨xo,rfl,dx,aaA⟩⟩⟩⟩
 case a3=>
  have e:ac7 t=(aaZ 1 31 (afA t none (some (-1)))).map Mk.nea:=by unfold ac7;rw[if_neg c1,if_neg c2,if_neg c3,if_pos c]
  rw[e] at q
  refine⟨_,rfl,_,rfl,_,rfl,t,rfl,hz,_,1,31,rfl,(by omega),fun H1 s1=>?_⟩
  cases en:aaZ 1 31 (afA t none (some (-1))) with
  |none=>
   rw[en] at q
   exact⟨_,rfl,rfl,_,rfl,ifT rfl (q _ _ s1 rfl)⟩
  |some b=>
   rw[en] at q
   exact⟨_,rfl,rfl,_,rfl,ifF rfl ⟨_,rfl,fun xo dx nx ndx nex=>⟨xo,dx,_,rfl,aaA,rfl,q _ _ (s1.trans (acY nx ndx)) ⟨xo,rfl,dx,aaA⟩⟩⟩⟩
 case a4=>
  have e:ac7 t=none:=by unfold ac7;rw[if_neg c1,if_neg c2,if_neg c3,if_neg c4]
  rw[e] at q
  exact q _ _ (Same.refl H) rfl
theorem ad0:Df P w K mg base "read_weekday" 4 ["text"] (aiZ K):=by
 refine ZZ.b6.dfs sc_read_weekday (fun vs H Q E h=>?_) (fun f cdv A outer s H vs Q E hr h=>?_)
 ·obtain⟨_,rfl,_⟩:=h
  rfl
 obtain⟨t,rfl,hl,q⟩:=h
 refine⟨_,(ssC (aaH 1 (eD (abE ZZ) hr (aC (v_ 0) (aC eI (aC (eGl (v:=.int 7) ZZ.al ⟨_,rfl⟩) aN)))) sc_read_weekday.nd)
   (ss1 (aaG (eIf (tCm oEq (v_ 1) (eGl (v:=.int 7) ZZ.al ⟨_,rfl⟩)) (eGl (v:=.int 0) ZZ.bo ⟨_,rfl⟩) (v_ 1))))),?_⟩
 refine⟨_,rfl,t,0,7,rfl,(by omega),fun H1 s1=>?_⟩
 cases en:aaZ 0 7 t with
 |none=>
  have e:wdN t=none:=by unfold wdN;rw[en];rfl
  rw[e] at q
  exact⟨_,rfl,rfl,_,rfl,ifF (dU fun z=>nomatch z) ⟨_,rfl,q _ s1⟩⟩
 |some n=>
  have e:wdN t=some (if n=7 then 0 else n):=by unfold wdN;rw[en];rfl
  rw[e] at q
  refine⟨_,rfl,rfl,_,rfl,ifI (fun c=>?_) (fun c=>⟨_,rfl,?_⟩)⟩
  ·rw[if_pos c] at q
   exact q _ s1
  ·rw[if_neg c] at q
   exact q _ s1
theorem ae1:Df P w K mg base "read_weekday_mark" 5 ["item"] (aeA K aD aF aG aI aE aB aH aJ):=by
 refine ZZ.bi.dfs sc_read_weekday_mark (fun vs H Q E h=>?_) (fun f cdv A outer s H vs Q E hr h=>?_)
 ·obtain⟨_,rfl,_⟩:=h
  rfl
 obtain⟨t,rfl,hl,q⟩:=h
 refine⟨_,(ssC (sIf (tVa (eEw (v_ 0) (eSx [76]))) (ssC (aaH 1 (eD (ad0 ZZ) hr (aC (eSl slX (v_ 0) poN (poS (eUn aqK eI))) aN)) sc_read_weekday_mark.nd)
   (ss1 (aaG (eIf (tCm ag5 (v_ 1) eN) eN (eMk ZZ.au (afB ZZ) hr (aC (v_ 1) aN)))))) ssN)
   (ssC (aaH 2 (avT (v_ 0) (eSx [35])) sc_read_weekday_mark.nd)
   (ssC (sIf (tCm oNe (eCB akK ZZ.ag PySem.boot_len (aC (v_ 2) aN)) eI) (ss1 (aaG eN)) ssN)
   (ssC (aaH 1 (eD (ad0 ZZ) hr (aC (eIx xL (v_ 2) eI) aN)) sc_read_weekday_mark.nd)
   (ssC (aaH 3 (eD (abE ZZ) hr (aC (eIx xL (v_ 2) eI) (aC eI (aC (eGl (v:=.int 5) ZZ.dr ⟨_,rfl⟩) aN)))) sc_read_weekday_mark.nd)
   (ssC (sIf (tW (wOr (tCm ag5 (v_ 1) eN) (afJ (tCm ag5 (v_ 3) eN)))) (ss1 (aaG eN)) ssN)
   (ss1 (aaG (eMk ZZ.a0 (ai4 ZZ) hr (aC (v_ 1) (aC (v_ 3) aN))))))))))),?_⟩
 have hz:t.length<=sizeLine:=by rw[dN];omega
 have hc2:=agT t none (some (-1))
 have hsl:=agV 35 t
 have hml:=abW 35 t
 refine⟨_,rfl,rfl,t,76,rfl,rfl,_,rfl,ifD (fun c=>?a0) (fun c1=>?a1)⟩
 case a0=>
  have e:ao8 t=(wdN (afA t none (some (-1)))).map Mk.one:=by unfold ao8;rw[if_pos c]
  rw[e] at q
  refine⟨_,rfl,_,rfl,_,rfl,t,rfl,hz,_,rfl,(by omega),fun H1 s1=>?_⟩
  cases en:wdN (afA t none (some (-1))) with
  |none=>
   rw[en] at q
   exact⟨_,rfl,rfl,_,rfl,ifT rfl (q _ _ s1 rfl)⟩
  |some b=>
   rw[en] at q
   exact⟨_,rfl,rfl,_,rfl,ifF rfl ⟨_,rfl,fun xo dx nx ndx nex=>⟨xo,dx,_,rfl,aaA,rfl,q _ _ (s1.trans (acY nx ndx)) ⟨xo,rfl,dx,aaA⟩⟩⟩⟩
 case a1=>
  refine⟨_,rfl,rfl,t,35,rfl,rfl,(by rw[dN];omega),fun ps hps=>?_⟩
  have s0:=aaB hps (.lst ((spl 35 t).map fun q=>V.str (Tx q)))
  refine⟨_,rfl,ps,_,rfl,.inl (SqL.of aaA),rfl,_,rfl,?_⟩
  have two:(∃a b,spl 35 t=[a,b])∨(∀a b,spl 35 t≠[a,b]):=by
   by_cases z:∃a b,spl 35 t=[a,b]
   ·exact .inl z
   ·exact .inr fun r s e=>z ⟨r,s,e⟩
  rcases two with ⟨a,b,e2⟩ | hno
  ·have e:ao8 t=aC4 (wdN a) (aaZ 1 5 b):=by unfold ao8;rw[if_neg c1,e2]
   rw[e] at q
   have h1:=hml a (by rw[e2];simp)
   have h2:=hml b (by rw[e2];simp)
   rw[e2]
   refine ifF rfl ⟨_,rfl,ps,_,_,_,rfl,rfl,SqL.of aaA,rfl,a,rfl,(by omega),fun H1 s1=>?_⟩
   refine⟨_,rfl,ps,_,_,_,rfl,rfl,SqL.of (s1 _ _ aaA),rfl,b,1,5,rfl,(by omega),fun H2 s2=>?_⟩
   rw[e2] at s0
   cases ew:wdN a with
   |none=>
    rw[ew] at q
    exact⟨_,rfl,rfl,_,rfl,ifT rfl (q _ _ (s0.trans (s1.trans s2)) rfl)⟩
   |some wd=>
    rw[ew] at q
    refine⟨_,rfl,rfl,_,rfl,ifF rfl ⟨_,rfl,rfl,_,rfl,?_⟩⟩
    cases en:aaZ 1 5 b with
    |none=>
     rw[en] at q
     exact ifT rfl (q _ _ (s0.trans (s1.trans s2)) rfl)
    |some m=>
     rw[en] at q
     exact ifF rfl ⟨_,rfl,_,rfl,fun xo dx nx ndx nex=>⟨xo,dx,_,_,rfl,aaA,rfl,q _ _ (s0.trans (s1.trans (s2.trans (azJ nx ndx)))) ⟨xo,rfl,dx,aaA⟩⟩⟩
  ·have hlen:¬(spl 35 t).length=2:=fun e=>by
    match h:spl 35 t,e with
    |[r,s],_=>exact hno r s h
   have e:ao8 t=none:=by
    unfold ao8
    rw[if_neg c1]
    split
    ·rename_i a b h
     exact absurd h (hno a b)
    ·rfl
   rw[e] at q
   refine ifT ?_ (q _ _ s0 rfl)
   rw[dU fun z=>hlen (by have z:=V.int.inj z;rw[aR] at z;omega)]
   rfl
theorem afM:Df P w K mg base "read_items" 7 ["text","low","high","read_mark"] (alX K aD aF aG aI aE aB aH aJ aM aO):=by
 refine ZZ.cy.dfs sc_read_items (fun vs H Q E h=>?_) (fun f cdv A outer s H vs Q E hr h=>?_)
 ·obtain⟨_,_,_,_,rfl,_⟩:=h
  rfl
 obtain⟨l,lo,hi,wk,rfl,hb,hok,q⟩:=h
 refine⟨_,(ssC (sIf (tW (wOr (tNo (tVa (eCB cIs ZZ.ae PyProof.Rows.boot_isinstance (aC (v_ 0) (aC (eTy ZZ.ad PyProof.Rows.boot_str) aN))))) (afJ (tCm oGt (eCB aw7 ZZ.ag PySem.boot_len (aC (v_ 0) aN)) (eGl (v:=.int 300) ZZ.a9 ⟨_,rfl⟩))))) (ss1 aoY) ssN)
   (ssC (aaH 4 (avT (v_ 0) (eSx [44])) sc_read_items.nd)
   (ssC (aaH 5 eI sc_read_items.nd)
   (ssC (aaH 6 (aaW aN) sc_read_items.nd)
   (ssC (ad6 (iE ZZ.am (eSl slL (v_ 4) poN (poS (eGl (v:=.int 40) ZZ.ak ⟨_,rfl⟩)))) (gTu (gsC (gN 7 sc_read_items.nd) (gsC (gN 8 sc_read_items.nd) gsN))) (ssC (aaH 9 (eD (agY ZZ) hr (aC (v_ 8) (aC (v_ 1) (aC (v_ 2) aN)))) sc_read_items.nd)
   (ss1 (sIf (tCm ag5 (v_ 9) eN) (ssC (aaH 10 (ar1 (eDV ((ah7 ZZ).at_ ZZ.a3) hr (v_ 3) (aC (v_ 8) aN)) (eDV ((ae1 ZZ).at_ ZZ.aq) hr (v_ 3) (aC (v_ 8) aN))) sc_read_items.nd)
   (ssC (sIf (tW (wOr (tCm ag5 (v_ 10) eN) (afJ (tCm oEq (eCB akK ZZ.ag PySem.boot_len (aC (v_ 6) aN)) (eGl (v:=.int 20) ZZ.cq ⟨_,rfl⟩))))) (ss1 aoY) ssN)
   (ss1 (al1 (apW (v_ 6) (v_ 10)))))) (ss1 (aaH 5 (eOp oOr (v_ 5) (v_ 9)) sc_read_items.nd))))) PassesOwn.never)
   (ssC (sIf (tCm oGt (eCB akK ZZ.ag PySem.boot_len (aC (v_ 4) aN)) (eGl (v:=.int 40) ZZ.ak ⟨_,rfl⟩)) (ss1 aoY) ssN)
   (ss1 (aaG (aaQ (aC (v_ 5) (aC (v_ 6) aN))))))))))),?_⟩
 have hl:=hok.len
 have hml:=abW 44 l
 refine⟨_,rfl,_,.str,.str,rfl,(by decide),rfl,_,rfl,ifF rfl ⟨_,rfl,l,rfl,(by rw[dN];omega),_,_,rfl,rfl,_,rfl,?_⟩⟩
 rw[dU (show ¬(300:Int)<((l.length:Nat):Int) by omega)]
 refine aa5 ⟨_,rfl,rfl,l,44,rfl,rfl,(by rw[dN];omega),fun ps hps=>?_⟩
 have s0:=aaB hps (.lst ((spl 44 l).map fun q=>V.str (Tx q)))
 refine⟨(zL 0),fun mk hmk=>?_⟩
 have s1:=aaB hmk (.lst [])
 refine⟨_,rfl,_,rfl,ps,_,rfl,SqL.of (s1 _ _ aaA),fun pc hpc=>?_⟩
 have ecut:aaV ((spl 44 l).map fun q=>V.str (Tx q)) none (some 40)=(spl 44 l).map fun q=>V.str (Tx q):=aC1 (by rw[aR];exact hok.few)
 rw[ecut]
 have hne:pc≠mk:=fun e=>by
  rw[e,aaA] at hpc
  cases hpc
 have s1b:=aaB hpc (.lst ((spl 44 l).map fun q=>V.str (Tx q)))
 refine⟨pc,rfl,⟨_,SqL.of aaA⟩,alR (K:=K) (a:=pc) (xs:=(spl 44 l).map fun q=>V.str (Tx q)) (fun i σ H2=>∃(u1 u2 u3 u4:Option V) (qs:List Addr),σ=[some (.str (Tx l)),some (.int lo),some (.int hi),some (.ref (if wk=true then aO else aM)),some (.ref ps),some (.int (orM (plP lo hi ((spl 44 l).take i)))),some (.ref mk),u1,u2,u3,u4]/\Same (upd H ps (.lst ((spl 44 l).map fun q=>V.str (Tx q)))) H2/\H2 pc=some (.lst ((spl 44 l).map fun q=>V.str (Tx q)))/\H2 mk=some (.lst (qs.map V.ref))/\Ft (MkAt (⟨aD,aF,aG,aI,aE,aB,aH,aJ⟩:Cs) H2) qs (mkP wk lo hi ((spl 44 l).take i))) ⟨_,_,_,_,[],rfl,s1.trans s1b,aaA,s1b _ _ aaA,.nil⟩ (fun i σ H2 _ ⟨_,_,_,_,_,_,_,h,_⟩=>SqL.of h) ?turn ?done⟩
 case turn=>
  rintro i x σ H2 T hx ⟨u1,u2,u3,u4,qs,rfl,s2,h2c,h2m,hq⟩ hT
  rw[bF] at hx
  cases ew:(spl 44 l)[i]? with
  |none=>rw[ew] at hx;cases hx
  |some w0=>
   rw[ew] at hx
   obtain rfl:V.str (Tx w0)=x:=a8 hx
   have hw:=hml w0 (bL ew)
   refine⟨T,_,rfl,SqT.of aaA,rfl,_,_,rfl,_,_,rfl,rfl,?_⟩
   refine⟨_,rfl,_,rfl,_,rfl,w0,lo,hi,rfl,(by omega),hb,fun H3 s3=>?_⟩
   cases em:aaJ lo hi w0 with
   |some m=>
    have et:(spl 44 l).take (i+1)=(spl 44 l).take i++[w0]:=by rw[cE,ew];rfl
    have s23:=(aaB hT _).trans s3
    refine⟨_,rfl,rfl,_,rfl,ifF rfl ⟨_,rfl,_,rfl,_,_,rfl,rfl,?_⟩⟩
    exact⟨_,_,_,_,qs,by rw[et,aAF em,aeI];rfl,s2.trans s23,s23 _ _ h2c,s23 _ _ h2m,by rw[et,aF5 em];exact hq.keepM s23.keep⟩
   |none=>
    cases wk with
    |false=>
     have hso:(rdM false w0).isSome=true:=by
      rcases hok.all w0 (bL ew) with h | h
      ·rw[em] at h;cases h
      ·exact h
     obtain⟨k,ek⟩:=cY.mp hso
     have ek':ac7 w0=some k:=ek
     refine⟨_,rfl,rfl,_,rfl,ifT rfl ?_⟩
     refine .inl ⟨_,rfl,rfl,_,rfl,w0,rfl,(by omega),fun v H4 s4 hv=>?_⟩
     rw[ek'] at hv
     obtain⟨x,rfl,hx⟩:=hv
     have s24:=(aaB hT _).trans (s3.trans s4)
     have hq4:=hq.keepM s24.keep
     have lq:qs.length=(mkP false lo hi ((spl 44 l).take i)).length:=Paired.length hq
     have l1:=ar5 false lo hi (spl 44 l) (i+1)
     have et:(spl 44 l).take (i+1)=(spl 44 l).take i++[w0]:=by rw[cE,ew];rfl
     rw[et,ajQ em ek,aU,bM] at l1
     have hm20:=hok.most
     refine⟨_,rfl,rfl,_,rfl,ifF rfl ⟨_,rfl,mk,_,rfl,.inl (SqL.of (s24 _ _ h2m)),rfl,_,rfl,?_⟩⟩
     refine ifI (fun c=>?_) (fun c=>?_)
     ·rw[aR] at c
      omega
     refine⟨_,rfl,.inl ⟨rfl,_,SqL.of (s24 _ _ h2m)⟩,_,rfl,mk,_,_,rfl,rfl,s24 _ _ h2m,(by rw[aR,dN];omega),?_⟩
     have kp:=agW (l':=qs.map V.ref++[.ref x]) (s24 _ _ h2m)
     exact⟨_,_,_,_,qs++[x],by rw[et,azE em];rfl,abZ hmk (s2.trans s24),by rw[aaF hne];exact s24 _ _ h2c,by rw[bD];exact aaA,by rw[et,ajQ em ek];exact Ft.app (hq4.keepM kp) (.cons (hx.keep kp) .nil)⟩
    |true=>
     have hso:(rdM true w0).isSome=true:=by
      rcases hok.all w0 (bL ew) with h | h
      ·rw[em] at h;cases h
      ·exact h
     obtain⟨k,ek⟩:=cY.mp hso
     have ek':ao8 w0=some k:=ek
     refine⟨_,rfl,rfl,_,rfl,ifT rfl ?_⟩
     refine .inr ⟨_,rfl,rfl,_,rfl,w0,rfl,(by omega),fun v H4 s4 hv=>?_⟩
     rw[ek'] at hv
     obtain⟨x,rfl,hx⟩:=hv
     have s24:=(aaB hT _).trans (s3.trans s4)
     have hq4:=hq.keepM s24.keep
     have lq:qs.length=(mkP true lo hi ((spl 44 l).take i)).length:=Paired.length hq
     have l1:=ar5 true lo hi (spl 44 l) (i+1)
     have et:(spl 44 l).take (i+1)=(spl 44 l).take i++[w0]:=by rw[cE,ew];rfl
     rw[et,ajQ em ek,aU,bM] at l1
     have hm20:=hok.most
     refine⟨_,rfl,rfl,_,rfl,ifF rfl ⟨_,rfl,mk,_,rfl,.inl (SqL.of (s24 _ _ h2m)),rfl,_,rfl,?_⟩⟩
     refine ifI (fun c=>?_) (fun c=>?_)
     ·rw[aR] at c
      omega
     refine⟨_,rfl,.inl ⟨rfl,_,SqL.of (s24 _ _ h2m)⟩,_,rfl,mk,_,_,rfl,rfl,s24 _ _ h2m,(by rw[aR,dN];omega),?_⟩
     have kp:=agW (l':=qs.map V.ref++[.ref x]) (s24 _ _ h2m)
     exact⟨_,_,_,_,qs++[x],by rw[et,azE em];rfl,abZ hmk (s2.trans s24),by rw[aaF hne];exact s24 _ _ h2c,by rw[bD];exact aaA,by rw[et,ajQ em ek];exact Ft.app (hq4.keepM kp) (.cons (hx.keep kp) .nil)⟩
 case done=>
  rintro σ H2 ⟨u1,u2,u3,u4,qs,rfl,s2,h2c,h2m,hq⟩
  refine⟨_,rfl,ps,_,rfl,.inl (SqL.of (s2 _ _ aaA)),_,_,rfl,rfl,_,rfl,?_⟩
  have hfew:=hok.few
  rw[dU (show ¬(40:Int)<((((spl 44 l).map fun q=>V.str (Tx q)).length:Nat):Int) by rw[aR];omega)]
  rw[aR,cQ] at hq ⊢
  refine aa5 ⟨_,rfl,_,rfl,(zL 2),fun p hp=>?_⟩
  have s3:=aaB hp (.tup [.int (orM (plP lo hi (spl 44 l))),.ref mk])
  exact q p mk qs _ (none_of s0 hmk) (s0.trans (s2.trans s3)) aaA (s3 _ _ h2m) (hq.keepM s3.keep)
theorem aoG:Df P w K mg base "read_days" 8 ["text"] (apF K aD aF aG aI aE aB aH aJ):=by
 refine ZZ.dg.dfs sc_read_days (fun vs H Q E h=>?_) (fun f cdv A outer s H vs Q E hr h=>?_)
 ·obtain⟨_,rfl,_⟩:=h
  rfl
 obtain⟨l,rfl,hok,q1,q2⟩:=h
 refine⟨_,(ssC (aaH 1 (eD (afM ZZ) hr (aC (v_ 0) (aC eI (aC (eGl (v:=.int 31) ZZ.bd ⟨_,rfl⟩) (aC (eGl (v:=.ref aM) ZZ.a3 rfl) aN))))) sc_read_days.nd)
   (ssC (sIf (tCm oEq (v_ 0) (eSx [42])) (ss1 (aaG eN)) ssN)
   (ssC (sIf (tCm oEq (eIx xT (v_ 1) eI) eI) (ss1 (aaG (eIx xT (v_ 1) eI))) ssN)
   (ss1 (aaG (eOp ayD (aaW (aC (eMk ZZ.ar (afC ZZ) hr (aC (eIx xT (v_ 1) eI) aN)) aN)) (eIx xT (v_ 1) eI))))))),?_⟩
 refine⟨_,rfl,l,1,31,false,rfl,⟨by decide,by decide,by decide⟩,hok,fun p m qs H1 hmn s1 hp hm hq=>?_⟩
 have lq:qs.length<=20:=by
  have:=Paired.length hq
  have:=hok.most
  omega
 refine⟨_,rfl,rfl,_,rfl,ifX (fun c=>q1 c _ s1) (fun c=>?_)⟩
 have q2:=q2 c
 unfold alA at q2
 generalize mkP false 1 31 (spl 44 l)=ms at hq q2
 generalize orM (plP 1 31 (spl 44 l))=M at hp q2
 refine⟨_,rfl,p,_,_,_,rfl,rfl,SqT.of hp,rfl,rfl,_,rfl,ifI (fun c0=>⟨_,rfl,p,_,_,_,rfl,rfl,SqT.of hp,rfl,q2 m qs _ hmn s1 hm ?_⟩) (fun c0=>?_)⟩
 ·have e:afR false M=[]:=by unfold afR;rw[if_pos c0]
  rw[e]
  exact hq
 have e:afR false M=[.num M]:=by unfold afR;rw[if_neg c0];rfl
 rw[e] at q2
 refine⟨_,rfl,p,_,_,_,rfl,rfl,SqT.of hp,rfl,fun xo dx nx ndx nex=>⟨xo,dx,_,rfl,aaA,rfl,(zL 1),fun l1 hl1=>?_⟩⟩
 have n1:Same H1 (upd (upd (upd H1 dx (.own xo)) xo (.ins aD dx [])) xo (.ins aD dx [("mask",.int M)])):=acY nx ndx
 have n2:=n1.trans (aaB hl1 (.lst [.ref xo]))
 refine⟨_,rfl,p,_,_,_,rfl,rfl,SqT.of (n2 _ _ hp),rfl,l1,m,_,_,rfl,rfl,aaA,n2 _ _ hm,(by rw[aR,dN];show 1+_<=_;omega),fun l2 hl2=>?_⟩
 have n3:=n2.trans (aaB hl2 (.lst ([.ref xo]++qs.map V.ref)))
 exact q2 l2 (xo::qs) _ (none_of (s1.trans n2) hl2) (s1.trans n3) aaA (.cons ⟨dx,(aaB hl2 _) _ _ ((aaB hl1 _) _ _ aaA)⟩ (hq.keepM n3.keep))
theorem ah3:Df P w K mg base "read_weekdays" 8 ["text"] (ahZ K aD aF aG aI aE aB aH aJ):=by
 refine ZZ.bv.dfs sc_read_weekdays (fun vs H Q E h=>?_) (fun f cdv A outer s H vs Q E hr h=>?_)
 ·obtain⟨_,rfl,_⟩:=h
  rfl
 obtain⟨l,rfl,hok,q1,q2⟩:=h
 refine⟨_,(ssC (aaH 1 (eD (afM ZZ) hr (aC (v_ 0) (aC eI (aC (eGl (v:=.int 7) ZZ.al ⟨_,rfl⟩) (aC (eGl (v:=.ref aO) ZZ.aq rfl) aN))))) sc_read_weekdays.nd)
   (ssC (sIf (tCm oEq (v_ 0) (eSx [42])) (ss1 (aaG eN)) ssN)
   (ssC (sIf (tCm oEq (eIx xT (v_ 1) eI) eI) (ss1 (aaG (eIx xT (v_ 1) eI))) ssN)
   (ssC (aaH 2 (eOp aw6 (eOp oOr (eIx xT (v_ 1) eI) (eOp az1 (eIx xT (v_ 1) eI) (eGl (v:=.int 7) ZZ.al ⟨_,rfl⟩))) (eGl (v:=.int 127) ZZ.bz ⟨_,rfl⟩)) sc_read_weekdays.nd)
   (ss1 (aaG (eOp ayD (aaW (aC (eMk ZZ.ao (aeN ZZ) hr (aC (v_ 2) aN)) aN)) (eIx xT (v_ 1) eI)))))))),?_⟩
 refine⟨_,rfl,l,0,7,true,rfl,⟨by decide,by decide,by decide⟩,hok,fun p m qs H1 hmn s1 hp hm hq=>?_⟩
 have lq:qs.length<=20:=by
  have:=Paired.length hq
  have:=hok.most
  omega
 refine⟨_,rfl,rfl,_,rfl,ifX (fun c=>q1 c _ s1) (fun c=>?_)⟩
 have q2:=q2 c
 unfold alA at q2
 generalize mkP true 0 7 (spl 44 l)=ms at hq q2
 generalize orM (plP 0 7 (spl 44 l))=M at hp q2
 refine⟨_,rfl,p,_,_,_,rfl,rfl,SqT.of hp,rfl,rfl,_,rfl,ifI (fun c0=>⟨_,rfl,p,_,_,_,rfl,rfl,SqT.of hp,rfl,q2 m qs _ hmn s1 hm ?_⟩) (fun c0=>?_)⟩
 ·have e:afR true M=[]:=by unfold afR;rw[if_pos c0]
  rw[e]
  exact hq
 have e:afR true M=[.wkd (wk7 M)]:=by unfold afR;rw[if_neg c0];rfl
 rw[e] at q2
 refine⟨_,rfl,p,_,_,_,rfl,rfl,SqT.of hp,rfl,_,rfl,p,_,_,_,rfl,rfl,SqT.of hp,rfl,_,_,rfl,rfl,(by show (0:Int)<=7;decide),_,_,rfl,rfl,_,_,rfl,rfl,?_⟩
 refine⟨_,rfl,fun xo dx nx ndx nex=>⟨xo,dx,_,rfl,aaA,rfl,(zL 1),fun l1 hl1=>?_⟩⟩
 have n1:Same H1 (upd (upd (upd H1 dx (.own xo)) xo (.ins aE dx [])) xo (.ins aE dx [("mask",.int (wk7 M))])):=acY nx ndx
 have n2:=n1.trans (aaB hl1 (.lst [.ref xo]))
 refine⟨_,rfl,p,_,_,_,rfl,rfl,SqT.of (n2 _ _ hp),rfl,l1,m,_,_,rfl,rfl,aaA,n2 _ _ hm,(by rw[aR,dN];show 1+_<=_;omega),fun l2 hl2=>?_⟩
 have n3:=n2.trans (aaB hl2 (.lst ([.ref xo]++qs.map V.ref)))
 exact q2 l2 (xo::qs) _ (none_of (s1.trans n2) hl2) (s1.trans n3) aaA (.cons ⟨dx,(aaB hl2 _) _ _ ((aaB hl1 _) _ _ aaA)⟩ (hq.keepM n3.keep))
theorem aeW:Df P w K mg base "month_at" 3 ["kind"] (arW K):=by
 refine ZZ.d3.dfs sc_month_at (fun vs H Q E h=>?_) (fun f cdv A outer s H vs Q E hr h=>?_)
 ·obtain⟨_,rfl,_⟩:=h
  rfl
 obtain⟨k,rfl,hk,q⟩:=h
 refine⟨_,(ssC (aaH 1 (eOp agO (v_ 0) eI) sc_month_at.nd)
   (ssC (aaH 2 (eOp abL (v_ 0) eI) sc_month_at.nd)
   (ssC (sIf (tCm oEq (v_ 1) (eGl (v:=.int 12) ZZ.a8 ⟨_,rfl⟩)) (ss1 (aaG (aaQ (aC eI (aC (eGl (v:=.int 29) ZZ.c8 ⟨_,rfl⟩) (aC (v_ 2) aN)))))) ssN)
   (ss1 (aaG (aaQ (aC (eOp aaM (v_ 1) eI) (aC (eD (acT ZZ) hr (aC (eGl (v:=.int 1) ZZ.cr ⟨_,rfl⟩) (aC (eOp aaM (v_ 1) eI) aN))) (aC (v_ 2) aN))))))))),?_⟩
 refine⟨_,rfl,_,_,rfl,rfl,⟨by decide,by decide⟩,?_⟩
 refine⟨_,rfl,_,_,rfl,rfl,(by show (0:Int)<7;decide),?_⟩
 refine⟨_,rfl,rfl,_,rfl,ifI (fun c=>?_) (fun c=>?_)⟩
 ·refine⟨_,rfl,(zL 3),fun p hp=>?_⟩
  exact q p _ (aaB hp _) (by unfold aj6;rw[if_pos c];exact aaA)
 ·refine⟨_,rfl,_,_,rfl,rfl,_,rfl,_,_,rfl,rfl,_,_,rfl,⟨by omega,by omega⟩,_,rfl,(zL 3),fun p hp=>?_⟩
  exact q p _ (aaB hp _) (by unfold aj6;rw[if_neg c];exact aaA)
theorem asF:Df P w K mg base "times_of" 3 ["hours","minutes"] (ar8 K):=by
 refine ZZ.d4.dfs sc_times_of (fun vs H Q E h=>?_) (fun f cdv A outer s H vs Q E hr h=>?_)
 ·obtain⟨_,_,rfl,_⟩:=h
  rfl
 obtain⟨h,m,rfl,hh,hm,q⟩:=h
 refine⟨_,(ssC (aaH 2 eI sc_times_of.nd)
   (ssC (ad6 (iL (eD (amH ZZ) hr (aC (v_ 0) aN))) (gN 3 sc_times_of.nd) (ss1 (aaH 2 (eOp oOr (v_ 2) (eOp amQ (v_ 1) (eOp acG (eGl (v:=.int 60) ZZ.af ⟨_,rfl⟩) (v_ 3)))) sc_times_of.nd)) PassesOwn.never)
   (ss1 (aaG (v_ 2))))),?_⟩
 have bh:=aoV hh.1 hh.2
 have bm:=aoV hm.1 hm.2
 refine⟨_,rfl,h,rfl,⟨hh.1,by omega⟩,fun p H1 s1 h1=>⟨p,rfl,⟨_,SqL.of h1⟩,acR (K:=K) (a:=p) (xs:=(aqB h).map V.int) (fun i σ H2=>∃(v3:Option V),σ=[some (.int h),some (.int m),some (.int (orM (((aqB h).take i).map fun z=>m*2^(60*z).toNat))),v3]/\Same H1 H2) ⟨_,rfl,Same.refl _⟩ (fun i σ H2 _ ⟨_,_,s2⟩=>SqL.of (s2 _ _ h1)) ?turn ?done⟩⟩
 case done=>
  rintro σ H2 ⟨v3,rfl,s2⟩
  rw[aR,cQ]
  exact⟨_,rfl,q _ H2 rfl (s1.trans s2)⟩
 case turn=>
  rintro i x σ H2 hx ⟨v3,rfl,s2⟩
  rw[bF] at hx
  cases ez:(aqB h)[i]? with
  |none=>rw[ez] at hx;cases hx
  |some z=>
   rw[ez] at hx
   obtain rfl:V.int z=x:=a8 hx
   have et:orM (((aqB h).take (i+1)).map fun z=>m*2^(60*z).toNat)=Builtin.bitOr (orM (((aqB h).take i).map fun z=>m*2^(60*z).toNat)) (m*2^(60*z).toNat):=by rw[cE,ez,bD];exact aeI _ _
   rw[et]
   have hz:=bL ez
   rw[ajL hh.1 hh.2] at hz
   obtain⟨n,hn,_,rfl⟩:=flt_mem.mp hz
   refine⟨_,rfl,_,rfl,_,rfl,_,_,rfl,rfl,.inl ⟨by decide,by decide⟩,_,_,rfl,rfl,⟨?_,?_,?_⟩,_,_,rfl,rfl,?_⟩
   ·omega
   ·omega
   ·omega
   ·exact⟨_,rfl,s2⟩
theorem atR:Df P w K mg base "days_by" 5 ["days","weekdays","last","first"] (asI K aD aF aG aI aE aB aH aJ):=by
 refine ZZ.ek.dfs sc_days_by (fun vs H Q E h=>?_) (fun f cdv A outer s H vs Q E hr h=>?_)
 ·obtain⟨_,_,_,_,_,_,rfl,_⟩:=h
  rfl
 obtain⟨dv,wv,kd,kw,l,fi,rfl,hd,hw,hlf,q⟩:=h
 refine⟨_,(ssC (sIf (tW (al0 (tCm ag5 (v_ 0) eN) (ah9 (tCm ag5 (v_ 1) eN)))) (ss1 (aaG (eD (aeS ZZ) hr (aC (v_ 2) aN)))) ssN)
   (ssC (aaH 4 eI sc_days_by.nd)
   (ssC (ad6 (iT (aaQ (aC (v_ 0) (aC (v_ 1) aN)))) (gN 5 sc_days_by.nd) (ss1 (sIf (tCm aJ6 (v_ 5) eN) (ss1 (aaH 4 (eOp oOr (v_ 4) (eD (ar4 ZZ) hr (aC (v_ 5) (aC (v_ 2) (aC (v_ 3) aN))))) sc_days_by.nd)) ssN)) PassesOwn.never)
   (ss1 (aaG (v_ 4)))))),?_⟩
 have loop:kd.isNone=false∨kw.isNone=false->abP kd kw l fi=orO kw (orO kd 0 l fi) l fi:=fun h=>by
  unfold abP
  rw[if_neg]
  rintro⟨h1,h2⟩
  rcases h with h | h
  ·rw[h] at h1;cases h1
  ·rw[h] at h2;cases h2
 cases kd with
 |none=>
  have ed:dv=.non:=hd
  subst ed
  cases kw with
  |none=>
   have ew:wv=.non:=hw
   subst ew
   refine⟨_,rfl,rfl,_,rfl,?_⟩
   show if decide (V.non=V.non)=true then _ else _
   rw[dQ rfl]
   refine aa2 ⟨_,rfl,rfl,_,rfl,?_⟩
   show if decide (V.non=V.non)=true then _ else _
   rw[dQ rfl]
   exact aa2 ⟨_,rfl,l,rfl,hlf.1,q H (Same.refl _)⟩
  |some kw=>
   rw[loop (.inr rfl)] at q
   refine⟨_,rfl,rfl,_,rfl,?_⟩
   show if decide (V.non=V.non)=true then _ else _
   rw[dQ rfl]
   obtain⟨pw,qw,rfl,lw,fw,ow⟩:=hw
   refine aa2 ⟨_,rfl,rfl,_,rfl,aa5 ?_⟩
   refine⟨_,rfl,_,rfl,(zL 2),fun tt ht=>⟨tt,rfl,⟨_,SqT.of aaA⟩,aoD (K:=K) (a:=tt) (xs:=[V.non,(V.ref pw)]) (fun i σ H2=>∃v5:Option V,σ=[some V.non,some (V.ref pw),some (.int l),some (.int fi),some (.int (match i with | 0=>0 | 1=>orO none 0 l fi | _=>orO (some kw) (orO none 0 l fi) l fi)),v5]/\Same (upd H tt (.tup [V.non,(V.ref pw)])) H2) ⟨_,rfl,Same.refl _⟩ (fun i σ H2 _ ⟨_,_,s2⟩=>SqT.of (s2 _ _ aaA)) ?turn ?done⟩⟩
   case done=>
    rintro σ H2 ⟨v5,rfl,s2⟩
    exact⟨_,rfl,q H2 ((aaB ht _).trans s2)⟩
   case turn=>
    rintro i x σ H2 hx ⟨v5,rfl,s2⟩
    have sA:=(aaB ht (.tup [V.non,(V.ref pw)])).trans s2
    match i,hx with
    |0,hx=>
     cases hx
     refine⟨_,rfl,rfl,_,rfl,?_⟩
     show if (!decide (V.non=V.non))=true then _ else _
     rw[dQ rfl]
     exact aa5 ⟨_,rfl,s2⟩
    |1,hx=>
     cases hx
     exact⟨_,rfl,rfl,_,rfl,aa2 ⟨_,rfl,_,rfl,_,rfl,_,rfl,pw,qw,kw,l,fi,rfl,SqL.of (sA _ _ lw),fw.keepM sA.keep,ow,hlf,_,_,rfl,rfl,⟨_,rfl,s2⟩⟩⟩
    |i+2,hx=>cases hx
 |some kd=>
  rw[loop (.inl rfl)] at q
  obtain⟨pd,qd,rfl,ld,fd,od⟩:=hd
  refine⟨_,rfl,rfl,_,rfl,aa5 ?_⟩
  cases kw with
  |none=>
   have ew:wv=.non:=hw
   subst ew
   refine⟨_,rfl,_,rfl,(zL 2),fun tt ht=>⟨tt,rfl,⟨_,SqT.of aaA⟩,aoD (K:=K) (a:=tt) (xs:=[(V.ref pd),V.non]) (fun i σ H2=>∃v5:Option V,σ=[some (V.ref pd),some V.non,some (.int l),some (.int fi),some (.int (match i with | 0=>0 | 1=>orO (some kd) 0 l fi | _=>orO none (orO (some kd) 0 l fi) l fi)),v5]/\Same (upd H tt (.tup [(V.ref pd),V.non])) H2) ⟨_,rfl,Same.refl _⟩ (fun i σ H2 _ ⟨_,_,s2⟩=>SqT.of (s2 _ _ aaA)) ?turn ?done⟩⟩
   case done=>
    rintro σ H2 ⟨v5,rfl,s2⟩
    exact⟨_,rfl,q H2 ((aaB ht _).trans s2)⟩
   case turn=>
    rintro i x σ H2 hx ⟨v5,rfl,s2⟩
    have sA:=(aaB ht (.tup [(V.ref pd),V.non])).trans s2
    match i,hx with
    |0,hx=>
     cases hx
     exact⟨_,rfl,rfl,_,rfl,aa2 ⟨_,rfl,_,rfl,_,rfl,_,rfl,pd,qd,kd,l,fi,rfl,SqL.of (sA _ _ ld),fd.keepM sA.keep,od,hlf,_,_,rfl,rfl,⟨_,rfl,s2⟩⟩⟩
    |1,hx=>
     cases hx
     refine⟨_,rfl,rfl,_,rfl,?_⟩
     show if (!decide (V.non=V.non))=true then _ else _
     rw[dQ rfl]
     exact aa5 ⟨_,rfl,s2⟩
    |i+2,hx=>cases hx
  |some kw=>
   obtain⟨pw,qw,rfl,lw,fw,ow⟩:=hw
   refine⟨_,rfl,_,rfl,(zL 2),fun tt ht=>⟨tt,rfl,⟨_,SqT.of aaA⟩,aoD (K:=K) (a:=tt) (xs:=[(V.ref pd),(V.ref pw)]) (fun i σ H2=>∃v5:Option V,σ=[some (V.ref pd),some (V.ref pw),some (.int l),some (.int fi),some (.int (match i with | 0=>0 | 1=>orO (some kd) 0 l fi | _=>orO (some kw) (orO (some kd) 0 l fi) l fi)),v5]/\Same (upd H tt (.tup [(V.ref pd),(V.ref pw)])) H2) ⟨_,rfl,Same.refl _⟩ (fun i σ H2 _ ⟨_,_,s2⟩=>SqT.of (s2 _ _ aaA)) ?turn ?done⟩⟩
   case done=>
    rintro σ H2 ⟨v5,rfl,s2⟩
    exact⟨_,rfl,q H2 ((aaB ht _).trans s2)⟩
   case turn=>
    rintro i x σ H2 hx ⟨v5,rfl,s2⟩
    have sA:=(aaB ht (.tup [(V.ref pd),(V.ref pw)])).trans s2
    match i,hx with
    |0,hx=>
     cases hx
     exact⟨_,rfl,rfl,_,rfl,aa2 ⟨_,rfl,_,rfl,_,rfl,_,rfl,pd,qd,kd,l,fi,rfl,SqL.of (sA _ _ ld),fd.keepM sA.keep,od,hlf,_,_,rfl,rfl,⟨_,rfl,s2⟩⟩⟩
    |1,hx=>
     cases hx
     exact⟨_,rfl,rfl,_,rfl,aa2 ⟨_,rfl,_,rfl,_,rfl,_,rfl,pw,qw,kw,l,fi,rfl,SqL.of (sA _ _ lw),fw.keepM sA.keep,ow,hlf,_,_,rfl,rfl,⟨_,rfl,s2⟩⟩⟩
    |i+2,hx=>cases hx
theorem ajG:DfM P w K mg base aA "__init__" 4 ["self","fields"] (ajK K aA):=by
 refine ZZ.b7.dfs ajI (fun vs H Q E h=>?_) (fun f cdv A outer s H vs Q E hr h=>?_)
 ·obtain⟨_,_,_,_,_,_,_,_,rfl,_⟩:=h
  rfl
 obtain⟨p,dx,fa,m0,m1,m3,dv,wv,rfl,hp,hf,h0,h1,q⟩:=h
 refine⟨_,(ssC (sFl (v_ 0) (eIx xL (v_ 1) (eGl (v:=.int 0) ZZ.en ⟨_,rfl⟩)))
   (ssC (sFl (v_ 0) (eIx xL (v_ 1) (eGl (v:=.int 1) ZZ.ex ⟨_,rfl⟩)))
   (ssC (sFl (v_ 0) (eIx xL (v_ 1) (eGl (v:=.int 2) ZZ.ds ⟨_,rfl⟩)))
   (ssC (sFl (v_ 0) (eIx xL (v_ 1) (eGl (v:=.int 3) ZZ.es ⟨_,rfl⟩)))
   (ssC (sFl (v_ 0) (eIx xL (v_ 1) (eGl (v:=.int 4) ZZ.bj ⟨_,rfl⟩)))
   (ss1 (sFl (v_ 0) (eD (asF ZZ) hr (aC (eFl (v_ 0)) (aC (eFl (v_ 0)) aN)))))))))),?_⟩
 have hfp:fa≠p:=fun e=>by rw[e,hp] at hf;cases hf
 have g0:H fa=some (.lst [.int m0,.int m1,dv,.int m3,wv]):=hf
 have g1:(upd H p (.ins aA dx (aaT "minute_mask" (.int m0) []))) fa=some (.lst [.int m0,.int m1,dv,.int m3,wv]):=by rw[aaF hfp];exact g0
 have g2:(upd (upd H p (.ins aA dx (aaT "minute_mask" (.int m0) []))) p (.ins aA dx (aaT "hour_mask" (.int m1) (aaT "minute_mask" (.int m0) [])))) fa=some (.lst [.int m0,.int m1,dv,.int m3,wv]):=by rw[aaF hfp];exact g1
 have g3:(upd (upd (upd H p (.ins aA dx (aaT "minute_mask" (.int m0) []))) p (.ins aA dx (aaT "hour_mask" (.int m1) (aaT "minute_mask" (.int m0) [])))) p (.ins aA dx (aaT "day_marks" dv (aaT "hour_mask" (.int m1) (aaT "minute_mask" (.int m0) []))))) fa=some (.lst [.int m0,.int m1,dv,.int m3,wv]):=by rw[aaF hfp];exact g2
 have g4:(upd (upd (upd (upd H p (.ins aA dx (aaT "minute_mask" (.int m0) []))) p (.ins aA dx (aaT "hour_mask" (.int m1) (aaT "minute_mask" (.int m0) [])))) p (.ins aA dx (aaT "day_marks" dv (aaT "hour_mask" (.int m1) (aaT "minute_mask" (.int m0) []))))) p (.ins aA dx (aaT "month_mask" (.int m3) (aaT "day_marks" dv (aaT "hour_mask" (.int m1) (aaT "minute_mask" (.int m0) [])))))) fa=some (.lst [.int m0,.int m1,dv,.int m3,wv]):=by rw[aaF hfp];exact g3
 have g5:(upd (upd (upd (upd (upd H p (.ins aA dx (aaT "minute_mask" (.int m0) []))) p (.ins aA dx (aaT "hour_mask" (.int m1) (aaT "minute_mask" (.int m0) [])))) p (.ins aA dx (aaT "day_marks" dv (aaT "hour_mask" (.int m1) (aaT "minute_mask" (.int m0) []))))) p (.ins aA dx (aaT "month_mask" (.int m3) (aaT "day_marks" dv (aaT "hour_mask" (.int m1) (aaT "minute_mask" (.int m0) [])))))) p (.ins aA dx (aaT "weekday_marks" wv (aaT "month_mask" (.int m3) (aaT "day_marks" dv (aaT "hour_mask" (.int m1) (aaT "minute_mask" (.int m0) []))))))) fa=some (.lst [.int m0,.int m1,dv,.int m3,wv]):=by rw[aaF hfp];exact g4
 have l5:∀(f:Str) (v:V),(abT m0 m1 dv m3 wv 0).lookup f=some v->f≠"time_mask"->(aaT "weekday_marks" wv (aaT "month_mask" (.int m3) (aaT "day_marks" dv (aaT "hour_mask" (.int m1) (aaT "minute_mask" (.int m0) []))))).lookup f=some v:=fun f v h hne=>by
  unfold abT at h
  rw[aaE,if_neg hne] at h
  exact h
 refine⟨_,rfl,fa,_,_,_,rfl,rfl,SqL.of g0,rfl,_,rfl,p,aA,dx,_,rfl,hp,ZZ.aa.cl,ZZ.ah,(by show 0<1000;decide),_,rfl,fa,_,_,_,rfl,rfl,SqL.of g1,rfl,_,rfl,p,aA,dx,_,rfl,aaA,ZZ.aa.cl,ZZ.aj,(by show 1<1000;decide),_,rfl,fa,_,_,_,rfl,rfl,SqL.of g2,rfl,_,rfl,p,aA,dx,_,rfl,aaA,ZZ.aa.cl,ZZ.a1,(by show 2<1000;decide),_,rfl,fa,_,_,_,rfl,rfl,SqL.of g3,rfl,_,rfl,p,aA,dx,_,rfl,aaA,ZZ.aa.cl,ZZ.ai,(by show 3<1000;decide),_,rfl,fa,_,_,_,rfl,rfl,SqL.of g4,rfl,_,rfl,p,aA,dx,_,rfl,aaA,ZZ.aa.cl,ZZ.ap,(by show 4<1000;decide),_,rfl,p,aA,dx,_,_,rfl,aaA,ZZ.aa.cl,ZZ.aj,l5 _ _ (acM ..) (by decide +kernel),_,rfl,p,aA,dx,_,_,rfl,aaA,ZZ.aa.cl,ZZ.ah,l5 _ _ (ab3 ..) (by decide +kernel),m1,m0,rfl,h1,h0,fun t HT ht sT=>?_⟩
 refine⟨_,rfl,p,aA,dx,_,rfl,sT _ _ aaA,ZZ.aa.cl,ZZ.a2,(by show 5<1000;decide),q t _ ht aaA fun b o hb hne=>?_⟩
 rw[aaF hne]
 refine sT _ _ ?_
 rw[aaF hne,aaF hne,aaF hne,aaF hne,aaF hne]
 exact hb
theorem abY:DfM P w K mg base aA "days_in" 6 ["self","kind"] (alS K aA aD aF aG aI aE aB aH aJ):=by
 refine ZZ.ch.dfs sc_Row_days_in (fun vs H Q E h=>?_) (fun f cdv A outer s H vs Q E hr h=>?_)
 ·obtain⟨_,_,_,_,_,_,_,_,_,_,_,rfl,_⟩:=h
  rfl
 obtain⟨p,dx,m0,m1,m3,tm,k,dv,wv,kd,kw,rfl,hp,hk,hm,hd,hw,q⟩:=h
 refine⟨_,(ssC (aaH 2 (eD (aeW ZZ) hr (aC (v_ 1) aN)) sc_Row_days_in.nd)
   (ssC (sIf (tNo (tVa (eD (acN ZZ) hr (aC (eFl (v_ 0)) (aC (eIx xT (v_ 2) eI) aN))))) (ss1 (aaG eI)) ssN)
   (ss1 (aaG (eD (atR ZZ) hr (aC (eFl (v_ 0)) (aC (eFl (v_ 0)) (aC (eIx xT (v_ 2) eI) (aC (eIx xT (v_ 2) eI) aN))))))))),?_⟩
 have ml:=agK hk.1 hk.2
 refine⟨_,rfl,k,rfl,hk,fun t H1 s1 h1=>?_⟩
 rw[agZ] at h1
 have hp1:=s1 _ _ hp
 refine⟨_,rfl,p,aA,dx,_,_,rfl,hp1,ZZ.aa.cl,ZZ.ai,ab8 ..,_,rfl,t,_,_,_,rfl,rfl,SqT.of h1,rfl,m3,mnA k,rfl,⟨hm,by omega⟩,_,rfl,?_⟩
 by_cases c:tb m3 (mnA k).toNat=true
 ·rw[if_pos c] at q
  rw[c]
  refine aa5 ⟨_,rfl,p,aA,dx,_,_,rfl,hp1,ZZ.aa.cl,ZZ.a1,akF ..,_,rfl,p,aA,dx,_,_,rfl,hp1,ZZ.aa.cl,ZZ.ap,agG ..,_,rfl,t,_,_,_,rfl,rfl,SqT.of h1,rfl,_,rfl,t,_,_,_,rfl,rfl,SqT.of h1,rfl,dv,wv,kd,kw,lnA k,k%7,rfl,hd.keep s1,hw.keep s1,ml.2,fun H' s'=>q H' (s1.trans s')⟩
 ·have c':tb m3 (mnA k).toNat=false:=by simpa using c
  rw[if_neg c] at q
  rw[c']
  exact aa2 (q H1 s1)
theorem ao0:Df P w K mg base "read_word" 9 ["word","place"] (aoB K aD aF aG aI aE aB aH aJ):=by
 refine ZZ.dh.dfs sc_read_word (fun vs H Q E h=>?_) (fun f cdv A outer s H vs Q E hr h=>?_)
 ·obtain⟨_,_,rfl,_⟩:=h
  rfl
 obtain⟨t,pl,rfl,h⟩:=h
 refine⟨_,(ssC (sIf (tCm oEq (v_ 1) (eGl (v:=.int 2) ZZ.ds ⟨_,rfl⟩)) (ss1 (aaG (eD (aoG ZZ) hr (aC (v_ 0) aN)))) ssN)
   (ssC (sIf (tCm oEq (v_ 1) (eGl (v:=.int 4) ZZ.bj ⟨_,rfl⟩)) (ss1 (aaG (eD (ah3 ZZ) hr (aC (v_ 0) aN)))) ssN)
   (ssC (aaH 2 (eDgK (eGl (v:=.ref a_BOUNDS) ZZ.eo rfl) (v_ 1)) sc_read_word.nd)
   (ss1 (aaG (eD (amM ZZ) hr (aC (v_ 0) (aC (eIx xT (v_ 2) eI) (aC (eIx xT (v_ 2) eI) aN))))))))),?_⟩
 rcases h with ⟨rfl,ko,hT,q⟩ | ⟨rfl,ko,hT,q⟩ | ⟨lo,hi,m,hp,hT,q⟩
 ·cases ko with
  |none=>
   have et:t=[42]:=hT.2.2
   exact⟨_,rfl,rfl,_,rfl,ifI (fun _=>⟨_,rfl,t,rfl,hT.2.1,(fun _ H' s'=>q _ H' s' rfl (fun p e=>nomatch e)),(fun c=>absurd et c)⟩) (fun c=>absurd rfl c)⟩
  |some ks=>
   exact⟨_,rfl,rfl,_,rfl,ifI (fun _=>⟨_,rfl,t,rfl,hT.2.1,(fun e=>absurd e hT.2.2.1),(fun _ m qs H' hm s' hl hF=>q _ H' s' ⟨m,qs,rfl,hl,by rw[←hT.2.2.2.2];exact hF,fun k hk=>(asD hT.2.2.2.1 k hk).2.2⟩ (fun p e=>by cases e;exact hm))⟩) (fun c=>absurd rfl c)⟩
 ·cases ko with
  |none=>
   have et:t=[42]:=hT.2.2
   exact⟨_,rfl,rfl,_,rfl,ifI (fun c=>absurd c (by decide)) (fun _=>⟨_,rfl,rfl,_,rfl,ifI (fun _=>⟨_,rfl,t,rfl,hT.2.1,(fun _ H' s'=>q _ H' s' rfl (fun p e=>nomatch e)),(fun c=>absurd et c)⟩) (fun c=>absurd rfl c)⟩)⟩
  |some ks=>
   exact⟨_,rfl,rfl,_,rfl,ifI (fun c=>absurd c (by decide)) (fun _=>⟨_,rfl,rfl,_,rfl,ifI (fun _=>⟨_,rfl,t,rfl,hT.2.1,(fun e=>absurd e hT.2.2.1),(fun _ m qs H' hm s' hl hF=>q _ H' s' ⟨m,qs,rfl,hl,by rw[←hT.2.2.2.2];exact hF,fun k hk=>(asD hT.2.2.2.1 k hk).2.2⟩ (fun p e=>by cases e;exact hm))⟩) (fun c=>absurd rfl c)⟩)⟩
 ·have hl:=hT.len
  have hne:pl≠2/\pl≠4:=by omega
  rcases hp with ⟨rfl,rfl,rfl⟩ | ⟨rfl,rfl,rfl⟩ | ⟨rfl,rfl,rfl⟩
  ·exact⟨_,rfl,rfl,_,rfl,ifI (fun c=>absurd c (by decide)) (fun _=>⟨_,rfl,rfl,_,rfl,ifI (fun c=>absurd c (by decide)) (fun _=>⟨_,rfl,a_BOUNDS,_,_,_,rfl,ZZ.ba,rfl,rfl,_,rfl,_,rfl,a_BOUNDS_0,_,_,_,rfl,rfl,ZZ.be _,rfl,_,rfl,a_BOUNDS_0,_,_,_,rfl,rfl,ZZ.be _,rfl,t,_,_,rfl,hl,⟨by decide,by decide,by decide⟩,hT.ok,fun H' s'=>by rw[hT.is];exact q H' s'⟩)⟩)⟩
  ·exact⟨_,rfl,rfl,_,rfl,ifI (fun c=>absurd c (by decide)) (fun _=>⟨_,rfl,rfl,_,rfl,ifI (fun c=>absurd c (by decide)) (fun _=>⟨_,rfl,a_BOUNDS,_,_,_,rfl,ZZ.ba,rfl,rfl,_,rfl,_,rfl,a_BOUNDS_1,_,_,_,rfl,rfl,ZZ.bf _,rfl,_,rfl,a_BOUNDS_1,_,_,_,rfl,rfl,ZZ.bf _,rfl,t,_,_,rfl,hl,⟨by decide,by decide,by decide⟩,hT.ok,fun H' s'=>by rw[hT.is];exact q H' s'⟩)⟩)⟩
  ·exact⟨_,rfl,rfl,_,rfl,ifI (fun c=>absurd c (by decide)) (fun _=>⟨_,rfl,rfl,_,rfl,ifI (fun c=>absurd c (by decide)) (fun _=>⟨_,rfl,a_BOUNDS,_,_,_,rfl,ZZ.ba,rfl,rfl,_,rfl,_,rfl,a_BOUNDS_3,_,_,_,rfl,rfl,ZZ.bg _,rfl,_,rfl,a_BOUNDS_3,_,_,_,rfl,rfl,ZZ.bg _,rfl,t,_,_,rfl,hl,⟨by decide,by decide,by decide⟩,hT.ok,fun H' s'=>by rw[hT.is];exact q H' s'⟩)⟩)⟩
theorem as9:Df P w K mg base "read_at" 10 ["word","place"] (atJ K aD aF aG aI aE aB aH aJ):=by
 refine ZZ.el.dfs at0 (fun vs H Q E h=>?_) (fun f cdv A outer s H vs Q E hr h=>?_)
 ·obtain⟨_,_,rfl,_⟩:=h
  rfl
 obtain⟨t,pl,rfl,h⟩:=h
 refine⟨_,(ss1 (aG2 (ss1 (aaG (eD (ao0 ZZ) hr (aC (v_ 0) (aC (v_ 1) aN))))))),?_⟩
 exact⟨_,rfl,_,rfl,t,pl,rfl,h⟩
theorem aiH:Df P w K mg base "read_row" 11 ["text"] (arK K aD aF aG aI aE aB aH aJ aA):=by
 refine ZZ.d5.dfs sc_read_row (fun vs H Q E h=>?_) (fun f cdv A outer s H vs Q E hr h=>?_)
 ·obtain⟨_,_,_,_,_,_,_,_,_,_,rfl,_⟩:=h
  rfl
 obtain⟨w0,w1,w2,w3,w4,m0,m1,m3,kd,kw,rfl,f0,f1,f3,d2,d4,hb,q⟩:=h
 refine⟨_,(ssC (sIf (tW (wOr (tNo (tVa (eCB cIs ZZ.ae PyProof.Rows.boot_isinstance (aC (v_ 0) (aC (eTy ZZ.ad PyProof.Rows.boot_str) aN))))) (afJ (tCm oGt (eCB aw7 ZZ.ag PySem.boot_len (aC (v_ 0) aN)) (eGl (v:=.int 1600) ZZ.bp ⟨_,rfl⟩))))) (ss1 aoY) ssN)
   (ssC (aaH 1 (avT (v_ 0) (eSx [32])) sc_read_row.nd)
   (ssC (sIf (tW (wOr (tCm oNe (eCB akK ZZ.ag PySem.boot_len (aC (v_ 1) aN)) (eGl (v:=.int 5) ZZ.dt ⟨_,rfl⟩)) (afJ (tCm oIn (eSx []) (v_ 1))))) (ss1 aoY) ssN)
   (ss1 (aaG (eMk ZZ.aa (ajG ZZ) hr (aC (ax6 ["place","word"] [] [] (iE ZZ.am (v_ 1)) (fun _ _ _ _ _ _=>aO6 (K:=K) (n:=2) (gsC (gN 0 (show ((["place","word"]:List Str)++([]:List Str)).Nodup by decide +kernel)) (gsC (gN 1 (show ((["place","word"]:List Str)++([]:List Str)).Nodup by decide +kernel)) gsN))) (fun _ _ _ _ _ _=>fsN) (fun _ _ _ _ _ _=>(eD (as9 ZZ) hr (aC (v_ 1) (aC (v_ 0) aN))))) aN))))))),?_⟩
 have n32:∀w∈[w0,w1,w2,w3,w4],32∉w:=fun w hw=>by
  simp only[aW,bS,or_false] at hw
  rcases hw with rfl | rfl | rfl | rfl | rfl
  ·exact f0.sp
  ·exact f1.sp
  ·exact d2.1.1
  ·exact f3.sp
  ·exact d4.1.1
 have nn:∀w∈[w0,w1,w2,w3,w4],w≠[]:=fun w hw=>by
  simp only[aW,bS,or_false] at hw
  rcases hw with rfl | rfl | rfl | rfl | rfl
  ·exact f0.ne
  ·exact f1.ne
  ·exact d2.1.2
  ·exact f3.ne
  ·exact d4.1.2
 have hs:=ad8 32 [w0,w1,w2,w3,w4] (cM _ _) n32
 obtain⟨L,eL⟩:∃L,L=aaY 32 [w0,w1,w2,w3,w4]:=⟨_,rfl⟩
 have hl:L.length<=1600:=by
  have:=f0.len
  have:=f1.len
  have:=f3.len
  have:=d2.2.1.len
  have:=d4.2.1.len
  rw[eL]
  show (w0++32::(w1++32::(w2++32::(w3++32::w4)))).length<=1600
  simp only[aU,bU]
  omega
 rw[←eL] at hs ⊢
 refine⟨_,rfl,_,.str,.str,rfl,(by decide),rfl,_,rfl,ifF rfl ⟨_,rfl,L,rfl,(by rw[dN];omega),_,_,rfl,rfl,_,rfl,?_⟩⟩
 rw[dU (show ¬(1600:Int)<((L.length:Nat):Int) by omega)]
 refine aa5 ⟨_,rfl,rfl,L,32,rfl,rfl,(by rw[dN];omega),fun ps hps=>?_⟩
 rw[hs]
 have s0:=aaB hps (.lst ([w0,w1,w2,w3,w4].map fun q=>V.str (Tx q)))
 refine⟨_,rfl,ps,_,rfl,.inl (SqL.of aaA),rfl,_,rfl,ifNe rfl ⟨_,rfl,ps,_,rfl,.inl (SqL.of aaA),rfl,rfl,_,rfl,?_⟩⟩
 show if inV (.str (Tx [])) ([w0,w1,w2,w3,w4].map fun q=>V.str (Tx q))=true then _ else _
 rw[aBO nn]
 refine aa5 ⟨_,rfl,ps,rfl,⟨_,SqL.of aaA⟩,asP (xs:=[w0,w1,w2,w3,w4].map fun q=>V.str (Tx q)) (fun D i l H=>i=0/\l=[]∨(∃l',H D=some (.lst l'))/\RR (⟨aD,aF,aG,aI,aE,aB,aH,aJ⟩:Cs) m0 m1 m3 (gO false kd) (gO true kw) D i l H) ?u1 ?u2 (zL 5) (fun D _=>.inl ⟨rfl,rfl⟩) (SqL.of aaA) ?st ?dn⟩
 case u1=>
  rintro D i l HX l' (h | ⟨hl,h⟩)
  ·exact .inl h
  ·exact .inr ⟨⟨_,aaA⟩,h.upd hl⟩
 case u2=>
  rintro D i l HX HY s (h | ⟨⟨l',hl⟩,h⟩)
  ·exact .inl h
  ·exact .inr ⟨⟨l',s _ _ hl⟩,h.keep s⟩
 case st=>
  intro i x l D H2 E' F' hx hR hD s2 hz hE hF
  have hR':RR (⟨aD,aF,aG,aI,aE,aB,aH,aJ⟩:Cs) m0 m1 m3 (gO false kd) (gO true kw) D i l H2:=by
   rcases hR with ⟨rfl,rfl⟩ | h
   ·rfl
   ·exact h.2
  have up:∀{H5:Hp},Same H2 H5->∃l',H5 D=some (.lst l'):=fun s=>⟨_,s _ _ hz⟩
  have fr:∀{p:Addr},H2 p=none->p≠D:=fun h e=>by rw[e,hz] at h;cases h
  match i,hx,hR' with
  |0,hx,e=>cases hx;exact⟨_,rfl,_,rfl,w0,0,rfl,.inr (.inr ⟨0,59,m0,.inl ⟨rfl,rfl,rfl⟩,f0,fun H' s'=>hE _ _ s' (.inr ⟨up s',by rw[e];rfl⟩)⟩)⟩
  |1,hx,e=>cases hx;exact⟨_,rfl,_,rfl,w1,1,rfl,.inr (.inr ⟨0,23,m1,.inr (.inl ⟨rfl,rfl,rfl⟩),f1,fun H' s'=>hE _ _ s' (.inr ⟨up s',by rw[e];rfl⟩)⟩)⟩
  |2,hx,e=>cases hx;exact⟨_,rfl,_,rfl,w2,2,rfl,.inl ⟨rfl,kd,d2,fun v H' s' hv hn=>hE _ _ s' (.inr ⟨up s',v,by rw[e];rfl,hv,fun p ep=>fr (hn p ep)⟩)⟩⟩
  |3,hx,⟨dv,e,hd⟩=>cases hx;exact⟨_,rfl,_,rfl,w3,3,rfl,.inr (.inr ⟨1,12,m3,.inr (.inr ⟨rfl,rfl,rfl⟩),f3,fun H' s'=>hE _ _ s' (.inr ⟨up s',dv,by rw[e];rfl,hd.keep s'⟩)⟩)⟩
  |4,hx,⟨dv,e,hd⟩=>cases hx;exact⟨_,rfl,_,rfl,w4,4,rfl,.inr (.inl ⟨rfl,kw,d4,fun v H' s' hv hn=>hE _ _ s' (.inr ⟨up s',dv,v,by rw[e];rfl,hd.keep s',hv,fun p ep=>fr (hn p ep)⟩)⟩)⟩
  |i+5,hx,_=>cases hx
 case dn=>
  intro D H2 l hR hD s2 hz
  rcases hR with ⟨e,_⟩ | ⟨_,hR⟩
  ·cases e
  obtain⟨dv,wv,rfl,hd,hw⟩:=hR
  intro x dx nx ndx nex
  have n1:=alF (a:=.own x) (b:=.ins aA dx []) nx ndx
  refine⟨x,dx,D,m0,m1,m3,dv,wv,rfl,aaA,n1 _ _ hz,⟨f0.nn,hb.1⟩,⟨f1.nn,hb.2⟩,fun tm H' htm hx' hs'=>⟨rfl,?_⟩⟩
  have sX:Same H2 H':=fun b o hb'=>hs' b o (n1 _ _ hb') (fun e=>by rw[e,nx] at hb';cases hb')
  exact q x dx dv wv tm H' htm (s0.trans (s2.trans sX)) hx' (hd.1.keep sX) (hw.1.keep sX)
theorem aj9:DfM P w K mg base aA "minutes" 1 ["self"] (aj2 K aA):=by
 refine ZZ.ci.dfs aj1 (fun vs H Q E h=>?_) (fun f cdv A outer s H vs Q E hr h=>?_)
 ·obtain⟨_,_,_,_,_,_,_,_,rfl,_⟩:=h
  rfl
 obtain⟨p,dx,m0,m1,m3,tm,dv,wv,rfl,hp,q⟩:=h
 refine⟨_,(ss1 (aaG (eFl (v_ 0)))),?_⟩
 exact⟨_,rfl,p,aA,dx,_,_,rfl,hp,ZZ.aa.cl,ZZ.ah,ab3 ..,q⟩
theorem ao1:DfM P w K mg base aA "hours" 1 ["self"] (apD K aA):=by
 refine ZZ.di.dfs aoN (fun vs H Q E h=>?_) (fun f cdv A outer s H vs Q E hr h=>?_)
 ·obtain⟨_,_,_,_,_,_,_,_,rfl,_⟩:=h
  rfl
 obtain⟨p,dx,m0,m1,m3,tm,dv,wv,rfl,hp,q⟩:=h
 refine⟨_,(ss1 (aaG (eFl (v_ 0)))),?_⟩
 exact⟨_,rfl,p,aA,dx,_,_,rfl,hp,ZZ.aa.cl,ZZ.aj,acM ..,q⟩
theorem al9:DfM P w K mg base aA "months" 1 ["self"] (al7 K aA):=by
 refine ZZ.cz.dfs amD (fun vs H Q E h=>?_) (fun f cdv A outer s H vs Q E hr h=>?_)
 ·obtain⟨_,_,_,_,_,_,_,_,rfl,_⟩:=h
  rfl
 obtain⟨p,dx,m0,m1,m3,tm,dv,wv,rfl,hp,q⟩:=h
 refine⟨_,(ss1 (aaG (eFl (v_ 0)))),?_⟩
 exact⟨_,rfl,p,aA,dx,_,_,rfl,hp,ZZ.aa.cl,ZZ.ai,ab8 ..,q⟩
theorem akQ:DfM P w K mg base aA "shut_by" 7 ["self","moment"] (akR K aA aD aF aG aI aE aB aH aJ):=by
 refine ZZ.cj.dfs sc_Row_shut_by (fun vs H Q E h=>?_) (fun f cdv A outer s H vs Q E hr h=>?_)
 ·obtain⟨_,_,_,_,_,_,_,_,_,_,_,rfl,_⟩:=h
  rfl
 obtain⟨p,dx,m0,m1,m3,tm,mo,dv,wv,kd,kw,rfl,hp,hn,hd,hw,q⟩:=h
 refine⟨_,(ssC (aaH 2 (eD (anR ZZ) hr (aC (v_ 1) aN)) sc_Row_shut_by.nd)
   (ssC (aaH 3 (eD (adG ZZ) hr (aC (eIx xT (v_ 2) eI) aN)) sc_Row_shut_by.nd)
   (ssC (sIf (tNo (tVa (eD (acN ZZ) hr (aC (eFl (v_ 0)) (aC (eIx xT (v_ 3) eI) aN))))) (ss1 (aaG (eSx [109,111,110,116,104]))) ssN)
   (ssC (sIf (tNo (tVa (eD (acN ZZ) hr (aC (eMe ZZ.aa.cl (abY ZZ) hr (v_ 0) (aC (eD (adP ZZ) hr (aC (eIx xT (v_ 3) eI) (aC (eIx xT (v_ 3) eI) aN))) aN)) (aC (eIx xT (v_ 3) eI) aN))))) (ss1 (aaG (eSx [100,97,121]))) ssN)
   (ssC (sIf (tNo (tVa (eD (acN ZZ) hr (aC (eFl (v_ 0)) (aC (eIx xT (v_ 2) eI) aN))))) (ss1 (aaG (eSx [104,111,117,114]))) ssN)
   (ssC (sIf (tNo (tVa (eD (acN ZZ) hr (aC (eFl (v_ 0)) (aC (eIx xT (v_ 2) eI) aN))))) (ss1 (aaG (eSx [109,105,110,117,116,101]))) ssN)
   (ss1 (aaG eN)))))))),?_⟩
 refine⟨_,rfl,mo,rfl,fun t H1 s1 h1=>⟨_,rfl,t,_,_,_,rfl,rfl,SqT.of (h1),rfl,_,rfl,fun y m k t2 H2 ok e s2 h2=>?_⟩⟩
 have s12:=s1.trans s2
 have hp2:=s12 _ _ hp
 have q':=q y m k
 refine⟨_,rfl,p,aA,dx,_,_,rfl,hp2,ZZ.aa.cl,ZZ.ai,ab8 ..,_,rfl,t2,_,_,_,rfl,rfl,SqT.of (h2),rfl,m3,m,rfl,⟨hn.2.2,by have:=ok.1;omega⟩,_,rfl,?_⟩
 cases c1:tb m3 m.toNat with
 |false=>
  have z:=q' H2 ok e s12
  rw[sh1 c1] at z
  exact aa2 z
 |true=>
  have mk:=acJ (y:=y) ok.1.1 ok.1.2
  have kl:=ajP (y:=y) ok.1.1 ok.1.2
  refine aa5 ⟨_,rfl,p,dx,_,rfl,hp2,ab6 ..,_,rfl,t2,_,_,_,rfl,rfl,SqT.of (h2),rfl,_,rfl,t2,_,_,_,rfl,rfl,SqT.of (h2),rfl,y,m,rfl,ok.1,fun H3 s3=>?_⟩
  refine⟨p,dx,m0,m1,m3,tm,kindOf y m,dv,wv,kd,kw,rfl,s3 _ _ hp2,kl,hn.2.2,hd.keep (s12.trans s3),hw.keep (s12.trans s3),fun H4 s4=>?_⟩
  rw[mk.1,mk.2,if_pos c1,ajO ok e]
  have s24:=s3.trans s4
  have sA:=s12.trans s24
  refine⟨_,rfl,t2,_,_,_,rfl,rfl,SqT.of (s24 _ _ h2),rfl,_,k,rfl,⟨ap2 (azZ ok) (anJ hd) (anJ hw),by have:=ok.2.1;omega⟩,_,rfl,?_⟩
  cases c2:tb (abP kd kw (aaD y m) ((mo / 1440-k+1+6)%7)) k.toNat with
  |false=>
   have z:=q' H4 ok e sA
   rw[sh2 c1 c2] at z
   exact aa2 z
  |true=>
   refine aa5 ⟨_,rfl,p,aA,dx,_,_,rfl,s24 _ _ hp2,ZZ.aa.cl,ZZ.aj,acM ..,_,rfl,t,_,_,_,rfl,rfl,SqT.of ((s2.trans s24) _ _ h1),rfl,m1,_,rfl,⟨hn.2.1,by omega⟩,_,rfl,?_⟩
   cases c3:tb m1 (mo%1440 / 60).toNat with
   |false=>
    have z:=q' H4 ok e sA
    rw[sh3 c1 c2 c3] at z
    exact aa2 z
   |true=>
    refine aa5 ⟨_,rfl,p,aA,dx,_,_,rfl,s24 _ _ hp2,ZZ.aa.cl,ZZ.ah,ab3 ..,_,rfl,t,_,_,_,rfl,rfl,SqT.of ((s2.trans s24) _ _ h1),rfl,m0,_,rfl,⟨hn.1,by omega⟩,_,rfl,?_⟩
    cases c4:tb m0 (mo%1440%60).toNat with
    |false=>
     have z:=q' H4 ok e sA
     rw[sh4 c1 c2 c3 c4] at z
     exact aa2 z
    |true=>
     have z:=q' H4 ok e sA
     rw[sh5 c1 c2 c3 c4] at z
     exact aa5 z
theorem alZ:Df P w K mg base "next_month" 1 ["year","month"] (amV K):=by
 refine ZZ.c0.dfs amA (fun vs H Q E h=>?_) (fun f cdv A outer s H vs Q E hr h=>?_)
 ·obtain⟨_,rfl,_⟩:=h
  rfl
 obtain⟨N,rfl,q⟩:=h
 refine⟨_,(ssC (sIf (tCm oEq (v_ 1) eI) (ss1 (aaG (aaQ (aC (eOp aaM (v_ 0) eI) (aC eI aN))))) ssN)
   (ss1 (aaG (aaQ (aC (v_ 0) (aC (eOp aaM (v_ 1) eI) aN)))))),?_⟩
 refine⟨_,rfl,rfl,_,rfl,ifI (fun c=>?_) (fun c=>?_)⟩
 ·refine⟨_,rfl,_,_,rfl,rfl,(zL 2),fun t ht=>q t _ (aaB ht _) ?_⟩
  rw[show (N+1) / 12=N / 12+1 by omega,show (N+1)%12+1=1 by omega]
  exact aaA
 ·refine⟨_,rfl,_,rfl,_,_,rfl,rfl,(zL 2),fun t ht=>q t _ (aaB ht _) ?_⟩
  rw[show (N+1) / 12=N / 12 by omega,show (N+1)%12+1=N%12+1+1 by omega]
  exact aaA
theorem ap4:Df P w K mg base "month_of" 5 ["moment"] (aq0 K):=by
 refine ZZ.d6.dfs sc_month_of (fun vs H Q E h=>?_) (fun f cdv A outer s H vs Q E hr h=>?_)
 ·obtain⟨_,rfl,_⟩:=h
  rfl
 obtain⟨mo,rfl,q⟩:=h
 refine⟨_,(ssC (aaH 1 (eD (adG ZZ) hr (aC (eOp agO (v_ 0) (eGl (v:=.int 1440) ZZ.ac ⟨_,rfl⟩)) aN)) sc_month_of.nd)
   (ss1 (aaG (aaQ (aC (eIx xT (v_ 1) eI) (aC (eIx xT (v_ 1) eI) aN)))))),?_⟩
 refine⟨_,rfl,_,_,rfl,rfl,⟨by decide,by decide⟩,mo / 1440,rfl,fun y m k p H1 ok e s1 hp=>?_⟩
 refine⟨_,rfl,p,_,_,_,rfl,rfl,SqT.of hp,rfl,_,rfl,p,_,_,_,rfl,rfl,SqT.of hp,rfl,(zL 2),fun t ht=>?_⟩
 have hm:=ok.1
 have e1:(12*y+m-1) / 12=y:=by omega
 have e2:(12*y+m-1)%12+1=m:=by omega
 have u:=ae4 (12*y+m-1)
 unfold an8 at u
 have d:af7 (12*y+m-1)=db y+ahead y m:=by unfold af7;rw[e1,e2]
 rw[e1,e2,d] at u
 have hk:=ok.2
 have e':db y+ahead y m+k-1=mo / 1440:=e
 refine q (12*y+m-1) t _ (s1.trans (aaB ht _)) (by rw[d];omega) (by rw[u];omega) ?_
 rw[e1,e2]
 exact aaA
theorem al5:Df P w K mg base "minutes_on" 1 ["days"] (amL K):=by
 refine ZZ.c1.dfs sc_minutes_on (fun vs H Q E h=>?_) (fun f cdv A outer s H vs Q E hr h=>?_)
 ·obtain⟨_,_,rfl,_⟩:=h
  rfl
 obtain⟨d,ts,rfl,hS,hl,ht,q⟩:=h
 refine⟨_,(ssC (aaH 1 eI sc_minutes_on.nd)
   (ssC (ad6 (iE ZZ.am (v_ 0)) (gTu (gsC (gN 2 sc_minutes_on.nd) (gsC (gN 3 sc_minutes_on.nd) gsN))) (ss1 (aaH 1 (eOp oOr (v_ 1) (eOp aIC (v_ 3) (eOp acG (eGl (v:=.int 1440) ZZ.ac ⟨_,rfl⟩) (v_ 2)))) sc_minutes_on.nd)) PassesOwn.never)
   (ss1 (aaG (v_ 1))))),?_⟩
 refine⟨_,rfl,d,rfl,⟨_,hS⟩,alR (K:=K) (a:=d) (xs:=ts.map V.int) (fun i σ H2=>∃(u1 u2:Option V),σ=[some (.ref d),some (.int (mnN (fun j=>ts.getD j 0) i)),u1,u2]/\Same H H2) ⟨_,_,rfl,Same.refl _⟩ (fun i σ H2 _ ⟨_,_,_,s2⟩=>s2.seq hS) ?_ ?_⟩
 ·rintro i x σ H2 T hx ⟨u1,u2,rfl,s2⟩ hT
  rw[bF] at hx
  cases ew:ts[i]? with
  |none=>rw[ew] at hx;cases hx
  |some z=>
   rw[ew] at hx
   obtain rfl:V.int z=x:=a8 hx
   have hz:=ht z (bL ew)
   have hi:=(cT.mp ew).1
   have ez:ts.getD i 0=z:=by rw[List.getD_eq_getElem?_getD,ew];rfl
   have ee:mnN (fun j=>ts.getD j 0) (i+1)=Builtin.bitOr (mnN (fun j=>ts.getD j 0) i) (z*2^(1440*i)):=by
    show Builtin.bitOr _ (ts.getD i 0*_)=_
    rw[ez]
   refine⟨T,_,rfl,SqT.of aaA,rfl,_,_,rfl,_,_,rfl,rfl,?_⟩
   refine⟨_,rfl,_,rfl,_,rfl,_,_,rfl,rfl,.inl ⟨by decide,by decide⟩,_,_,rfl,rfl,⟨by omega,by omega,?_⟩,_,_,rfl,rfl,?_⟩
   ·have:=hz.1
    have:=hz.2
    have e:((z.natAbs:Nat):Int)<((2^1440:Nat):Int):=by rw[aa6];omega
    exact Int.ofNat_lt.mp e
   ·rw[show (1440*(i:Int)).toNat=1440*i by omega]
    exact⟨_,_,by rw[ee];rfl,s2.trans (aaB hT _)⟩
 ·rintro σ H2 ⟨u1,u2,rfl,s2⟩
  rw[aR]
  exact⟨_,rfl,q H2 s2⟩
theorem am7:Df P w K mg base "lowest" 1 ["mask"] (awT K):=by
 refine ZZ.er.dfs awV (fun vs H Q E h=>?_) (fun f cdv A outer s H vs Q E hr h=>?_)
 ·obtain⟨_,_,rfl,_⟩:=h
  rfl
 obtain⟨m,k,rfl,hm,hk,hj,q⟩:=h
 refine⟨_,(ss1 (aaG (eOp abI (eBL (eOp aw6 (v_ 0) (eUn aqK (v_ 0)))) eI))),?_⟩
 refine⟨_,rfl,_,rfl,_,rfl,_,_,rfl,rfl,rfl,_,rfl,rfl,_,_,rfl,rfl,?_⟩
 show Q (.int (((Builtin.Int.intBits (Builtin.bitAnd m (-m)):Nat):Int)-1)) H
 rw[aCD hm hk hj,ayK,show (((k+1:Nat):Int)-1)=k by omega]
 exact q
theorem ahU:Df P w K mg base "last_shut_day" 7 ["row","day"] (ahK K aD aF aG aI aE aB aH aJ aA):=by
 refine ZZ.bw.dfs sc_last_shut_day (fun vs H Q E h=>?_) (fun f cdv A outer s H vs Q E hr h=>?_)
 ·obtain⟨_,_,_,_,_,_,_,_,_,_,_,_,rfl,_⟩:=h
  rfl
 obtain⟨tw,p,dx,m0,m1,m3,tm,d,dv,wv,kd,kw,rfl,hp,hn,hd,hw,hsh,q⟩:=h
 refine⟨_,(ssC (aaH 2 (eD (adG ZZ) hr (aC (v_ 1) aN)) sc_last_shut_day.nd)
   (ssC (aaH 3 (eD (adP ZZ) hr (aC (eIx xT (v_ 2) eI) (aC (eIx xT (v_ 2) eI) aN))) sc_last_shut_day.nd)
   (ssC (aaH 4 (eOp az1 (eMe ZZ.aa.cl (abY ZZ) hr (v_ 0) (aC (v_ 3) aN)) (eIx xT (v_ 2) eI)) sc_last_shut_day.nd)
   (ssC (sIf (tCm oEq (v_ 4) eI) (ss1 (aaG (eOp abI (eOp aaM (v_ 1) (eIx xT (eD (aeW ZZ) hr (aC (v_ 3) aN)) eI)) (eIx xT (v_ 2) eI)))) ssN)
   (ss1 (aaG (eOp abI (eOp aaM (v_ 1) (eD (am7 ZZ) hr (aC (v_ 4) aN))) eI))))))),?_⟩
 refine⟨_,rfl,d,rfl,fun y m k t H1 ok e s1 h1=>?_⟩
 have mk:=acJ (y:=y) ok.1.1 ok.1.2
 have kl:=ajP (y:=y) ok.1.1 ok.1.2
 refine⟨_,rfl,t,_,_,_,rfl,rfl,SqT.of (h1),rfl,_,rfl,t,_,_,_,rfl,rfl,SqT.of (h1),rfl,y,m,rfl,ok.1,fun H2 s2=>?_⟩
 have s12:=s1.trans s2
 refine⟨_,rfl,p,dx,_,rfl,s12 _ _ hp,ab6 ..,_,rfl,p,dx,m0,m1,m3,tm,kindOf y m,dv,wv,kd,kw,rfl,s12 _ _ hp,kl,hn.2.2,hd.keep s12,hw.keep s12,fun H3 s3=>?_⟩
 have s13:=s12.trans s3
 rw[mk.1,mk.2,ajO ok e]
 obtain⟨D,eD⟩:∃D,D=(if tb m3 m.toNat=true then abP kd kw (aaD y m) ((d-k+1+6)%7) else 0):=⟨_,rfl⟩
 rw[←eD]
 have nnD:0<=abP kd kw (aaD y m) ((d-k+1+6)%7):=ap2 (azZ ok) (anJ hd) (anJ hw)
 have D0:0<=D/\tb D k.toNat=false:=by
  rw[eD]
  rcases hsh y m k ok e with ⟨_,z⟩ | ⟨_,z,z2⟩
  ·rw[if_neg (by rw[z];decide)]
   exact⟨aV 0,abD _⟩
  ·rw[if_pos z]
   exact⟨nnD,z2⟩
 have DL:D<2^((aaD y m).toNat+1):=by
  rw[eD]
  split
  ·exact ay2 (azZ ok) (anJ hd) (anJ hw)
  ·exact aaS _
 have day:∀j:Nat,k+j<=aaD y m->tb D (k.toNat+j)=false->atZ m3 kd kw (d+j) tw:=fun j hj hb y' m' k' ok' e'=>by
  have hk0:=ok.2.1
  obtain⟨rfl,rfl,rfl⟩:=avJ (show OkD y m (k+j) from ⟨ok.1,by omega,hj⟩) ok' (by rw[e',←e];unfold acI;omega)
  rcases hsh y m k ok e with ⟨z0,z⟩ | ⟨z0,z,z2⟩
  ·exact .inl ⟨z0,z⟩
  ·refine .inr ⟨z0,z,?_⟩
   rw[eD,if_pos z] at hb
   rw[show d+(j:Int)-(k+(j:Int))+1+6=d-k+1+6 by omega,show (k+(j:Int)).toNat=k.toNat+j by omega]
   exact hb
 have hk:=ok.2
 refine⟨_,rfl,t,_,_,_,rfl,rfl,SqT.of ((s2.trans s3) _ _ h1),rfl,_,_,rfl,rfl,(by show (0:Int)<=k;omega),?_⟩
 refine⟨_,rfl,rfl,_,rfl,ifI (fun c=>?_) (fun c=>?_)⟩
 ·refine⟨_,rfl,_,rfl,kindOf y m,rfl,kl,fun t2 H4 s4 h4=>?_⟩
  rw[agZ,mk.1,mk.2] at h4
  refine⟨t2,_,_,_,rfl,rfl,SqT.of h4,rfl,_,_,rfl,rfl,_,rfl,t,_,_,_,rfl,rfl,SqT.of ((s2.trans (s3.trans s4)) _ _ h1),rfl,_,_,rfl,rfl,q _ _ (by omega) (fun d' a b=>?_) (s13.trans s4)⟩
  have z:=day (d'-d).toNat (by omega) (by rw[←adL D0.1,c,abD])
  rw[show d+((d'-d).toNat:Int)=d' by omega] at z
  exact z
 ·have X0:0<D / 2^k.toNat:=by
   have:0<=D / 2^k.toNat:=dA D0.1 (bN (aaS _))
   omega
  obtain⟨l,hl,hj⟩:=axG X0
  have l1:1<=l:=by
   rcases Nat.eq_zero_or_pos l with z | z
   ·rw[z,adL D0.1,Nat.add_zero,D0.2] at hl
    cases hl
   ·exact z
  have hl2:tb D (k.toNat+l)=true:=by rw[←adL D0.1];exact hl
  have hle:k.toNat+l<=(aaD y m).toNat:=by
   rcases Nat.lt_or_ge (aaD y m).toNat (k.toNat+l) with w' | w'
   ·rw[ae8 DL w'] at hl2
    cases hl2
   ·exact w'
  refine⟨_,rfl,_,rfl,_,l,rfl,X0,hl,hj,_,_,rfl,rfl,_,_,rfl,rfl,q _ _ (by omega) (fun d' a b=>?_) s13⟩
  have z:=day (d'-d).toNat (by omega) (by rw[←adL D0.1];exact hj _ (by omega))
  rw[show d+((d'-d).toNat:Int)=d' by omega] at z
  exact z
theorem aiM:Df P w K mg base "shut_end" 8 ["row","moment","word"] (arV K aD aF aG aI aE aB aH aJ aA):=by
 refine ZZ.d7.dfs aqG (fun vs H Q E h=>?_) (fun f cdv A outer s H vs Q E hr h=>?_)
 ·obtain⟨_,_,_,_,_,_,_,_,_,_,_,_,rfl,_⟩:=h
  rfl
 obtain⟨p,dx,tw,m0,m1,m3,tm,d,dv,wv,kd,kw,rfl,hp,hn,hd,hw,hsh,q⟩:=h
 refine⟨_,(ssC (sIf (tCm oEq (v_ 2) (eSx [109,105,110,117,116,101])) (ss1 (aaG (v_ 1))) ssN)
   (ssC (sIf (tCm oEq (v_ 2) (eSx [104,111,117,114])) (ss1 (aaG (eOp abI (eOp aaM (eOp abI (v_ 1) (eOp abL (v_ 1) (eGl (v:=.int 60) ZZ.af ⟨_,rfl⟩))) (eGl (v:=.int 60) ZZ.af ⟨_,rfl⟩)) eI))) ssN)
   (ss1 (aaG (eOp abI (eOp aaM (eOp acG (eGl (v:=.int 1440) ZZ.ac ⟨_,rfl⟩) (eD (ahU ZZ) hr (aC (v_ 0) (aC (eOp agO (v_ 1) (eGl (v:=.int 1440) ZZ.ac ⟨_,rfl⟩)) aN)))) (eGl (v:=.int 1440) ZZ.ac ⟨_,rfl⟩)) eI))))),?_⟩
 refine⟨_,rfl,rfl,_,rfl,ifX (fun c=>?_) (fun c=>?_)⟩
 ·exact⟨_,rfl,q _ _ (aV _) (fun z=>absurd c z) (fun t a b=>by rw[show t=d by omega];exact⟨hsh,id⟩) (Same.refl _)⟩
 refine⟨_,rfl,rfl,_,rfl,ifX (fun c2=>?_) (fun c2=>?_)⟩
 ·subst c2
  exact⟨_,rfl,_,rfl,_,_,rfl,rfl,(by show (0:Int)<60;decide),_,_,rfl,rfl,_,_,rfl,rfl,_,_,rfl,rfl,q _ _ (by omega) (fun _=>by omega) (fun t a b=>⟨aAI hsh (by omega) (by omega),fun z=>aAQ z (by omega) (by omega)⟩) (Same.refl _)⟩
 ·exact⟨_,rfl,_,rfl,_,_,rfl,rfl,⟨by decide,by decide⟩,tw,p,dx,m0,m1,m3,tm,d / 1440,dv,wv,kd,kw,rfl,hp,hn,hd,hw,aFP hsh c c2,fun r H1 hr1 hr2 s1=>⟨_,_,rfl,rfl,.inl ⟨by decide,by decide⟩,_,_,rfl,rfl,_,_,rfl,rfl,q _ _ (by omega) (fun _=>by omega) (fun t a b=>⟨.inr (.inr (hr2 _ (by omega) (by omega))),fun _=>aFS (hr2 _ (by omega) (by omega))⟩) s1⟩⟩
theorem ak7:Df P w K mg base "add_stretch" 1 ["stretches","first","last","told"] (aj5 K):=by
 refine ZZ.ck.dfs aj0 (fun vs H Q E h=>?_) (fun f cdv A outer s H vs Q E hr h=>?_)
 ·obtain⟨_,_,_,_,_,_,rfl,_⟩:=h
  rfl
 obtain⟨p,vs',sts,a,b,tm,rfl,hp,hP,hl,q⟩:=h
 refine⟨_,(ss1 (sIf (tW (al0 (tCm (aPD hr.units) (v_ 0) (aaW aN)) (ah9 (tCm oEq (eIx xT (eIx xL (v_ 0) (eUn aqK eI)) eI) (v_ 3))))) (ss1 (akW (aaQ (aC (eIx xT (eIx xL (v_ 0) (eUn aqK eI)) eI) (aC (v_ 2) (aC (v_ 3) aN)))) (gSb (v_ 0) (eUn aqK eI)))) (ss1 (al1 (apW (v_ 0) (aaQ (aC (v_ 1) (aC (v_ 2) (aC (v_ 3) aN))))))))),?_⟩
 refine⟨_,rfl,(zL 0),fun l hl0=>⟨p,l,vs',rfl,rfl,SqL.of ((aaB hl0 _) _ _ hp),SqL.of aaA,_,rfl,?_⟩⟩
 have s0:=aaB hl0 (.lst [])
 have hp0:=s0 _ _ hp
 have app:∀{H1:Hp} (t:Addr),Same H H1->H1 t=none->∀z:TrX,Paired (TpX (upd (upd H1 t (.tup [.int z.1,.int z.2.1,.str (Tx z.2.2)])) p (.lst (vs'++[.ref t])))) (vs'++[.ref t]) (sts++[z]):=fun {H1} t s1 ht z=>by
  have tp:t≠p:=fun e=>by rw[e,s1 _ _ hp] at ht;cases ht
  have g:∀b xs,H b=some (.tup xs)->upd (upd H1 t (.tup [.int z.1,.int z.2.1,.str (Tx z.2.2)])) p (.lst (vs'++[.ref t])) b=some (.tup xs):=fun b xs hb=>by
   rw[aaF (fun e=>by rw[e,hp] at hb;cases hb)]
   exact (s1.trans (aaB ht _)) _ _ hb
  exact ac2 (Paired.mapP hP fun _ _ y=>akS g y) ⟨t,rfl,by rw[aaF tp,aaA]⟩
 have oth:∀{H1:Hp} (t:Addr) (o u:HO),Same H H1->H1 t=none->∀q o',q≠p->H q=some o'->upd (upd H1 t o) p u q=some o':=fun {H1} t o u s1 ht q o' nq hq=>by
  rw[aaF nq]
  exact (s1.trans (aaB ht o)) _ _ hq
 by_cases c:vs'=[]
 ·subst c
  cases hP
  refine aa5 (aa5 ⟨_,rfl,.inl ⟨rfl,_,SqL.of hp0⟩,_,rfl,_,rfl,_,rfl,(zL 3),fun t ht=>⟨p,_,_,rfl,rfl,(aaB ht _) _ _ hp0,(by show 0<sizeLine;decide),q _ _ aaA (app t s0 ht (a,b,tm)) (oth t _ _ s0 ht)⟩⟩)
 obtain⟨l0,v,rfl⟩:=aAN c
 obtain⟨st0,z,rfl,hP0,t0,rfl,ht0⟩:=azO hP
 rw[ahX] at q
 rw[dQ c]
 have ht00:=s0 _ _ ht0
 refine aa2 ⟨_,rfl,_,rfl,p,_,_,_,rfl,rfl,SqL.of hp0,auJ,t0,_,_,_,rfl,rfl,SqT.of ht00,rfl,_,rfl,rfl,_,rfl,ifX (fun ce=>?_) (fun ce=>?_)⟩
 ·rw[if_pos ce] at q
  refine⟨_,rfl,_,rfl,p,_,_,_,rfl,rfl,SqL.of hp0,auJ,t0,_,_,_,rfl,rfl,SqT.of ht00,rfl,_,rfl,_,rfl,(zL 3),fun t ht=>?_⟩
  have s1:=aaB ht (.tup [.int z.1,.int b,.str (Tx tm)])
  have tp:t≠p:=fun e=>by rw[e,hp0] at ht;cases ht
  refine⟨_,rfl,_,rfl,p,_,_,_,rfl,rfl,s1 _ _ hp0,aB0,?_⟩
  rw[azT]
  have g:∀b' xs,H b'=some (.tup xs)->upd (upd (upd H l (.lst [])) t (.tup [.int z.1,.int b,.str (Tx tm)])) p (.lst (l0++[.ref t])) b'=some (.tup xs):=fun b' xs hb=>by
   rw[aaF (fun e=>by rw[e,hp] at hb;cases hb)]
   exact (s0.trans s1) _ _ hb
  exact q _ _ aaA (ac2 (Paired.mapP hP0 fun _ _ y=>akS g y) ⟨t,rfl,by rw[aaF tp,aaA]⟩) (oth t _ _ s0 ht)
 ·rw[if_neg ce] at q
  exact⟨_,rfl,.inl ⟨rfl,_,SqL.of hp0⟩,_,rfl,_,rfl,_,rfl,(zL 3),fun t ht=>⟨p,_,_,rfl,rfl,(aaB ht _) _ _ hp0,(by rw[dN];omega),q _ _ aaA (app t s0 ht (a,b,tm)) (oth t _ _ s0 ht)⟩⟩
theorem aqL:Df P w K mg base "paper_of" 9 ["row","begin","end"] (aqU K aD aF aG aI aE aB aH aJ aA):=by
 refine ZZ.d8.dfs sc_paper_of (fun vs H Q E h=>?_) (fun f cdv A outer s H vs Q E hr h=>?_)
 ·obtain⟨_,_,_,_,_,_,_,_,rfl,_⟩:=h
  rfl
 obtain⟨p,b,e,m0,m1,m3,kd,kw,rfl,hR,hE,hbe,q⟩:=h
 refine⟨_,(ssC (aaH 3 (aaW aN) sc_paper_of.nd)
   (ssC (aaH 4 (v_ 1) sc_paper_of.nd)
   (ssC (sWh (tCm oLe (v_ 4) (v_ 2)) (ssC (aaH 5 (eMe ZZ.aa.cl (akQ ZZ) hr (v_ 0) (aC (v_ 4) aN)) sc_paper_of.nd)
   (ssC (aaH 6 (eCB cMin ZZ.ez PyProof.Rows.boot_min (aC (eD (aiM ZZ) hr (aC (v_ 0) (aC (v_ 4) (aC (v_ 5) aN)))) (aC (v_ 2) aN))) sc_paper_of.nd)
   (ssC (al1 (eD (ak7 ZZ) hr (aC (v_ 3) (aC (v_ 4) (aC (v_ 6) (aC (v_ 5) aN))))))
   (ss1 (aaH 4 (eOp aaM (v_ 6) eI) sc_paper_of.nd))))) PassesOwn.never)
   (ss1 (aaG (v_ 3)))))),?_⟩
 have hg:=hR.ok
 obtain⟨dx,dv,wv,hp,hn,hb,hd,hw⟩:=hR
 refine⟨(zL 0),fun l hl=>⟨_,rfl,?_⟩⟩
 refine ae9 (fun σ H2=>∃(mo:Int) (us:List V) (sts:List TrX) (u5 u6:Option V),σ=[some (.ref p),some (.int b),some (.int e),some (.ref l),some (.int mo),u5,u6]/\H2 l=some (.lst us)/\Paired (TpX H2) us sts/\Same H H2/\b<=mo/\(mo<=e->(sts.length:Int)<=2*(mo / 60-b / 60)+lmX sts)/\(e<b->us=[])/\(∀s∈sts,axU m0 m1 m3 kd kw b (mo-1) s)/\(∀s,sts.getLast? =some s->s.2.1+1=mo)/\(mo<=e+1∨mo=b)/\us.length<=10000000/\Cov m0 m1 m3 kd kw b sts mo) (fun σ _=>match σ[4]? with | some (some (V.int mo))=>(e+1-mo).toNat | _=>0) ⟨b,[],[],_,_,rfl,aaA,.nil,aaB hl _,aV _,(fun _=>by rw[Int.sub_self];decide),(fun _=>rfl),(fun s hs=>nomatch hs),(fun s hs=>by cases hs),.inr rfl,bO _,rfl⟩ ?_
 rintro σ H2 ⟨mo,us,sts,u5,u6,rfl,h2,hP,s2,hbm,hlen,hemp,hpc,hla2,hend,hsz,hcov⟩
 refine⟨_,rfl,_,rfl,_,_,rfl,rfl,_,rfl,ifD (fun c=>?_) (fun c=>?_)⟩
 ·refine⟨_,fun _ _ h=>h,?_⟩
  refine⟨_,rfl,p,dx,_,rfl,s2 _ _ hp,ai0 ..,_,rfl,p,dx,m0,m1,m3,tmF m1 m0,mo,dv,wv,kd,kw,rfl,s2 _ _ hp,hn,hd.keep s2,hw.keep s2,fun y m k H3 ok ed s3=>?_⟩
  have s23:=s2.trans s3
  obtain⟨tw,etw,hday⟩:=aA8 (fun z=>hE mo hbm c (aC9 hn hb hg ok ed z))
  have hwd:aeD m0 m1 m3 kd kw mo (.str (Tx tw)):=fun y' m' k' ok' e'=>by
   obtain⟨rfl,rfl,rfl⟩:=avJ ok ok' (ed.trans e'.symm)
   exact etw
  rw[etw]
  refine⟨_,rfl,_,rfl,_,rfl,p,dx,tw,m0,m1,m3,tmF m1 m0,mo,dv,wv,kd,kw,rfl,s23 _ _ hp,hn,hd.keep s23,hw.keep s23,aHG ok ed hwd,fun r H4 hr1 hr2 hr0 s4=>⟨_,rfl,_,_,rfl,?_⟩⟩
  have hr3:=fun t a b=>(hr0 t a b).2 hwd
  obtain⟨la,ela⟩:∃la,la=if e<r then e else r:=⟨_,rfl⟩
  show abX _ (V.int (if e<r then e else r)) _ _ _
  rw[←ela]
  have hla:mo<=la/\la<=e/\(la<e->la=r):=by
   rw[ela]
   split<;>omega
  have hlen':=hlen c
  have pl:=adQ hP
  have l1:=axW sts
  have g34:∀b' xs,H2 b'=some (.tup xs)->H4 b'=some (.tup xs):=fun b' xs z=>s4 _ _ (s3 _ _ z)
  refine⟨_,rfl,_,rfl,_,rfl,_,rfl,l,us,sts,mo,la,tw,rfl,s4 _ _ (s3 _ _ h2),Paired.mapP hP (fun _ _ z=>akS g34 z),by omega,fun H5 us' h5 hP5 oth=>?_⟩
  refine⟨_,rfl,_,_,rfl,rfl,?_⟩
  obtain⟨pc1,pc2⟩:=aEF (tw:=tw) hpc hla2 hbm hla.1 (fun t a b=>hr3 t a (by rcases (show la<e∨la=e by omega) with w' | w';(· have:=hla.2.2 w';omega);(· rw[ela] at b;split at b<;>omega)))
  have cv:=auQ (tw:=tw) hcov hla.1 (fun t a b=>hr3 t a (by rcases (show la<e∨la=e by omega) with w' | w';(· have:=hla.2.2 w';omega);(· rw[ela] at b;split at b<;>omega))) ⟨y,m,k,ok,ed⟩ (aDM etw)
  have al:=(ar2 sts mo la tw).1
  have pl5:=adQ hP5
  refine⟨_,(by show (e+1-(la+1)).toNat<(e+1-mo).toNat;omega),rfl,la+1,us',_,_,_,rfl,h5,hP5,fun q' o hq=>oth q' o (fun z=>by rw[z,hl] at hq;cases hq) (s4 _ _ (s23 _ _ hq)),by omega,(fun z=>azN hlen' hla.1 fun n=>?_),(fun z=>?_),(by rw[show la+1-1=la by omega];exact pc1),pc2,.inl (by omega),by omega,cv⟩
  ·have:=hr2 n
   have:=hla.2.2 (by omega)
   omega
  ·omega
 ·exact⟨_,rfl,q l us sts H2 hl s2 h2 hP (fun s hs=>by
   obtain⟨a1,a2,a3,a4⟩:=hpc s hs
   exact⟨a1,a2,by omega,a4⟩) hsz (fun z=>by rw[show e+1=mo by omega];exact hcov) hemp⟩
theorem ajZ:DfM P w K mg base aA "on_days" 7 ["self","kind"] (ad7 K aA aD aF aG aI aE aB aH aJ):=by
 refine ZZ.cl.dfs sc_Row_on_days (fun vs H Q E h=>?_) (fun f cdv A outer s H vs Q E hr h=>?_)
 ·obtain⟨_,_,_,_,_,_,_,_,_,_,_,rfl,_⟩:=h
  rfl
 obtain⟨p,dx,m0,m1,m3,tm,k,dv,wv,kd,kw,rfl,hp,hk,hm,hd,hw,q⟩:=h
 refine⟨_,(ssK (aaH 2 (eMe ZZ.aa.cl (abY ZZ) hr (v_ 0) (aC (v_ 1) aN)) sc_Row_on_days.nd)
   (ssK (aaH 3 (eIx xT (eD (aeW ZZ) hr (aC (v_ 1) aN)) eI) sc_Row_on_days.nd)
   (ss1 (aaG (ar3 ["days","self"] [2,0] (iR2 ZZ.ab (aC eI (aC (eOp aaM (v_ 3) eI) aN))) (fun _ _ _ _ _ _=>fsN) (fun _ _ _ _ _ _=>(eIf (tVa (eD (acN ZZ) hr (aC (v_ 1) (aC (v_ 0) aN)))) (eFlc (K:=K) (v_ 2)) eI))))))),?_⟩
 refine⟨fun σ' H'=>σ'=[some (.ref p),some (.int k),some (.int (dIn m3 kd kw k)),none]/\Same H H',⟨_,rfl,p,dx,_,rfl,hp,ab6 ..,_,rfl,p,dx,m0,m1,m3,tm,k,dv,wv,kd,kw,rfl,hp,hk,hm,hd,hw,fun H1 s1=>⟨rfl,s1⟩⟩,?_⟩
 rintro σ' H1 ⟨rfl,s1⟩
 have ml:=(agK hk.1 hk.2).2.1
 refine⟨fun σ' H'=>σ'=[some (.ref p),some (.int k),some (.int (dIn m3 kd kw k)),some (.int (lnA k))]/\Same H1 H',⟨_,rfl,k,rfl,hk,fun t H2 s2 h2=>⟨t,_,_,_,rfl,rfl,SqT.of (by rw[agZ] at h2;exact h2),rfl,rfl,s2⟩⟩,?_⟩
 rintro σ' H2 ⟨rfl,s2⟩
 refine⟨_,rfl,_,_,rfl,rfl,_,_,rfl,⟨by decide,by decide,by omega,by omega⟩,adF (fun i l=>l=((List.range i).map (aaX tm m3 kd kw k)).map V.int) (by show (lnA k+1-1).toNat<=sizeLine;rw[dN];omega) rfl ?_ ?_⟩
 ·intro i l D H3 E' F' hi hR hD s3 hl hE hF
  subst hR
  have hp3:=(s1.trans (s2.trans s3)) _ _ hp
  have et:(1+(i:Int)).toNat=i+1:=by omega
  have fin:∀v:Int,v=aaX tm m3 kd kw k i->E' (.int v) H3:=fun v ev=>hE _ _ (Same.refl _) (by rw[ev,List.range_succ,bD,bD];rfl)
  refine⟨_,rfl,_,rfl,dIn m3 kd kw k,_,rfl,⟨aD5 hd hw hk.1 hk.2,by omega⟩,_,rfl,?_⟩
  rw[et]
  by_cases c:tb (dIn m3 kd kw k) (i+1)=true
  ·rw[c]
   exact aa2 ⟨_,rfl,p,aA,dx,_,_,rfl,hp3,ZZ.aa.cl,ZZ.a2,ajU ..,fin tm (by unfold aaX;rw[if_pos c])⟩
  ·rw[show tb (dIn m3 kd kw k) (i+1)=false by simpa using c]
   exact aa5 (fin 0 (by unfold aaX;rw[if_neg c]))
 ·intro D H3 l hR hD s3 hl
  subst hR
  refine q D H3 (s1.trans (s2.trans s3)) ?_
  rw[hl]
  unfold acQ
  rw[show (lnA k+1-1).toNat=(lnA k).toNat by omega]
theorem azP{HA:Hp}{f c' a p:Addr}{qual:Str}{params:Arguments}{body:Expr}{scope:Scope}{pm ctv:Value}{o0:Obj}{u0:Value}{m0 m1 m3:Int}{kd kw:Option (List Mk)}(S:LamScope "kind" "row" scope)
  (hb:∀(s:Shared) (u:Value),BindsTo s (PySem.W.kla_fn "<lambda>" qual params body scope [("row",a)] pm (.ref c') ctv) ⟨[u],[]⟩ [("kind",u)])
  (hB:∀(A:Around) (outer:List Env) (s:Shared) (H1:Hp),Room 7 (acZ P w K mg base ["kind","row"] qual scope s.heap.objs.size f c' [("row",a)] A outer s H1).A->L2.E (acZ P w K mg base ["kind","row"] qual scope s.heap.objs.size f c' [("row",a)] A outer s H1) body (aqZ aA "on_days" (ad7 K aA aD aF aG aI aE aB aH aJ) [] E0 (aBG 1) (af1 (aBG 0) agB)))
  (hf:HA f=some (ab9 f (av0 qual params body scope "row" a pm c' ctv))) (hc:HA c'=some (apU c' qual)) (ha:HA a=some (ab9 a o0)) (ho:o0.data=.cell (some u0)) (r0:RelV (.ref p) u0)
  (hR:RowR (⟨aD,aF,aG,aI,aE,aB,aH,aJ⟩:Cs) aA (era HA a) p m0 m1 m3 kd kw):asM P w K mg base 8 HA f (aaX (tmF m1 m0) m3 kd kw):=by
 refine⟨⟨_,_,_,_,hf⟩,fun H1 k Q s1 k0 k1 q=>?_⟩
 intro A outer s us hr e0 rv
 obtain⟨u,rfl,ru⟩:∃u,us=[u]/\RelV (.int k) u:=by
  cases rv with
  |cons r rn=>cases rn;exact⟨_,rfl,r⟩
 obtain⟨dx,dv,wv,hp,hn,hb2,hd,hw⟩:=hR
 have se:Same (era HA a) (era H1 a):=fun b o e=>by
  obtain⟨nb,e⟩:=ayP e
  rw[abN nb]
  exact s1 _ _ e
 refine aF8 S hr e0 (hb s u) ru (s1 _ _ hf) (s1 _ _ hc) (s1 _ _ ha) ho r0 (hB A outer s (era H1 a) (hr.deeper _)) ?_
 refine⟨_,rfl,p,dx,_,rfl,se _ _ hp,ajJ ..,_,rfl,p,dx,m0,m1,m3,tmF m1 m0,k,dv,wv,kd,kw,rfl,se _ _ hp,⟨k0,k1⟩,hn.2.2,hd.keep se,hw.keep se,fun D H' s' hD na=>q D _ (fun b o e=>?_) ?_⟩
 ·by_cases z:b=a
  ·rw[z] at e ⊢
   rw[s1 _ _ ha] at e
   rw[aaA]
   exact e
  ·rw[aaF z]
   exact s' _ _ (by rw[abN z];exact e)
 ·rw[aaF (fun z=>by rw[z,na] at hD;cases hD)]
  exact hD
theorem al4:Df P w K mg base "minutes_by" 9 ["known","on_days","kind"] (alW P w mg base K):=by
 refine ZZ.c2.dfs amP (fun vs H Q E h=>?_) (fun f cdv A outer s H vs Q E hr h=>?_)
 ·obtain⟨_,_,_,_,_,_,rfl,_⟩:=h
  rfl
 obtain⟨kn,f,kd,kvs,g,H0,rfl,hk,hkn,hK,hl,hg,h0,s0,hD,q⟩:=h
 refine⟨_,(ssC (sIf (tDnt hr (v_ 2) (v_ 0)) (ss1 (sDpt hr (v_ 0) (v_ 2) (eD (al5 ZZ) hr (aC (aD0 (k:=8) hr (v_ 1) (aC (v_ 2) aN)) aN)))) ssN)
   (ss1 (aaG (eDg hr (v_ 0) (v_ 2))))),?_⟩
 refine⟨_,rfl,_,rfl,kn,_,rfl,DGet.k (k:=.inl kd) hkn,_,rfl,?_⟩
 cases e:acW kvs (.inl kd) with
 |none=>
  have hF:=av6 s0 hD.1
  refine aa2 ⟨_,rfl,f,rfl,hF,_,rfl,hF,hD.2 H kd _ s0 hk.1 hk.2 fun D H2 s2 h2=>⟨D,acQ g kd,rfl,SqL.of h2,aNG g hk.1 hk.2,aO3 hg,fun H3 s3=>?_⟩⟩
  have s23:=s2.trans s3
  refine⟨_,rfl,_,rfl,kn,_,rfl,.inl ⟨kvs,.inl kd,s23 _ _ hkn,rfl,by rw[dN];omega,rfl⟩,?_⟩
  exact⟨_,rfl,_,rfl,kn,_,rfl,.inl ⟨_,.inl kd,.inl aaA,rfl,(by rw[aq7,if_pos rfl];rfl)⟩,q _ _ aaA (aDL hK kd) (ae0 _ _ _) fun b o n hb=>by rw[aaF n];exact s23 _ _ hb⟩
 |some v=>
  have ev:=hK kd v e
  subst ev
  exact aa5 ⟨_,rfl,_,rfl,kn,_,rfl,.inl ⟨_,.inl kd,.inl hkn,rfl,e.symm⟩,q kvs H hkn hK (by omega) fun _ _ _ hb=>hb⟩
theorem arI:Df P w K mg base "first_at" 10 ["on_days","moment"] (arL P w mg base K):=by
 refine ZZ.d9.dfs sc_first_at (fun vs H Q E h=>?_) (fun f cdv A outer s H vs Q E hr h=>?_)
 ·obtain⟨_,_,_,rfl,_⟩:=h
  rfl
 obtain⟨f,mo,g,rfl,hg,hD,q,q0⟩:=h
 refine⟨_,(ssC (aaH 2 (eD (ap4 ZZ) hr (aC (v_ 1) aN)) sc_first_at.nd)
   (ssC (aaH 3 eDi sc_first_at.nd)
   (ssC (ad6 (iR1 ZZ.ab (aC (eGl (v:=.int 492) ZZ.cd ⟨_,rfl⟩) aN)) (gN 4 sc_first_at.nd) (ssC (aaH 5 (eOp acG (eGl (v:=.int 1440) ZZ.ac ⟨_,rfl⟩) (eD (anO ZZ) hr (aC (eIx xT (v_ 2) eI) (aC (eIx xT (v_ 2) eI) (aC eI aN))))) sc_first_at.nd)
   (ssC (aaH 6 (eCB cMax ZZ.e0 PyProof.Rows.boot_max (aC (eOp abI (v_ 1) (v_ 5)) (aC eI aN))) sc_first_at.nd)
   (ssC (aaH 7 (eOp az1 (eD (al4 ZZ) hr (aC (v_ 3) (aC (v_ 0) (aC (eD (adP ZZ) hr (aC (eIx xT (v_ 2) eI) (aC (eIx xT (v_ 2) eI) aN))) aN)))) (v_ 6)) sc_first_at.nd)
   (ssC (sIf (tCm oNe (v_ 7) eI) (ss1 (aaG (eOp aaM (eOp aaM (v_ 5) (v_ 6)) (eD (am7 ZZ) hr (aC (v_ 7) aN))))) ssN)
   (ss1 (aaH 2 (eD (alZ ZZ) hr (aC (eIx xT (v_ 2) eI) (aC (eIx xT (v_ 2) eI) aN))) sc_first_at.nd)))))) PassesOwn.never)
   (ss1 (aaG eN))))),?_⟩
 have hc:=ay9 hg
 refine⟨_,rfl,mo,rfl,fun M0 t0 H1 s1 a1 a2 ht0=>fun kn hkn=>?_⟩
 have hkH:H kn=none:=by
  cases z:H kn with
  |none=>rfl
  |some o=>rw[s1 _ _ z] at hkn;cases hkn
 have sk:=aaB hkn (.dK [])
 refine⟨_,rfl,by decide,by decide,ab2 (fun i σ H2=>∃(tt:Addr) (kvs:List (Key×V)) (u4 u5 u6 u7:Option V),σ=[some (.ref f),some (.int mo),some (.ref tt),some (.ref kn),u4,u5,u6,u7]/\H2 tt=some (.tup [.int ((M0+i) / 12),.int ((M0+i)%12+1)])/\H2 kn=some (.dK kvs)/\ayW g kvs/\kvs.length<=i/\Same H H2/\∀t,mo<=t->t<SM (M0+i)->¬EvG g t) ⟨t0,[],_,_,_,_,rfl,by rw[show M0+((0:Nat):Int)=M0 by omega];exact sk _ _ ht0,aaA,fun _ _ z=>(by cases z),aQ _,s1.trans sk,fun t h1 h2=>by rw[show M0+((0:Nat):Int)=M0 by omega] at h2;unfold SM at h2;omega⟩ ?turn ?done⟩
 case done=>
  rintro σ H2 ⟨tt,kvs,u4,u5,u6,u7,rfl,htt,hk2,hK,hl,s2,hno⟩
  exact q0 H2 s2 (atL hc a1 a2 hno)
 case turn=>
  rintro i σ H2 hi ⟨tt,kvs,u4,u5,u6,u7,rfl,htt,hk2,hK,hl,s2,hno⟩
  obtain⟨M,eM⟩:∃M,M=M0+(i:Int):=⟨_,rfl⟩
  rw[←eM] at htt hno
  have hi2:i<492:=hi
  have lm:=aoJ M
  refine⟨_,rfl,tt,_,_,_,rfl,rfl,SqT.of (htt),rfl,_,rfl,tt,_,_,_,rfl,rfl,SqT.of (htt),rfl,(M / 12),(M%12+1),1,rfl,⟨⟨by omega,by omega⟩,by omega,by have h:28<=aaD (M / 12) (M%12+1):=lm.1;omega⟩,fun H3 s3=>⟨_,_,rfl,rfl,.inl ⟨by decide,by decide⟩,?_⟩⟩
  have eS:1440*(db (M / 12)+ahead (M / 12) (M%12+1)+1-1)=SM M:=by unfold SM af7;omega
  show abX _ (V.int (1440*(db (M / 12)+ahead (M / 12) (M%12+1)+1-1))) _ _ _
  rw[eS]
  refine⟨_,rfl,_,rfl,_,_,rfl,rfl,_,_,rfl,?_⟩
  show abX _ (V.int (if 0>mo-SM M then 0 else mo-SM M)) _ _ _
  rw[aEK]
  have s23:=s2.trans s3
  refine⟨_,rfl,_,rfl,_,rfl,tt,_,_,_,rfl,rfl,SqT.of (s3 _ _ htt),rfl,_,rfl,tt,_,_,_,rfl,rfl,SqT.of (s3 _ _ htt),rfl,(M / 12),(M%12+1),rfl,⟨by omega,by omega⟩,fun H4 s4=>?_⟩
  have s24:=s23.trans s4
  refine⟨kn,f,aeX M,kvs,g,H,rfl,akL M,s4 _ _ (s3 _ _ hk2),hK,by omega,hg,hkH,s24,hD,fun kvs' H5 h5 hK5 hl5 k5=>?_⟩
  have s5:Same H H5:=fun b o hb=>k5 b o (fun z=>by rw[z,hkH] at hb;cases hb) (s24 _ _ hb)
  have nt:tt≠kn:=fun z=>by rw[z,hk2] at htt;cases htt
  have ht5:H5 tt=_:=k5 tt _ nt (s4 _ _ (s3 _ _ htt))
  refine⟨_,rfl,_,_,rfl,rfl,(by show (0:Int)<=max (mo-SM M) 0;omega),?_⟩
  refine⟨_,rfl,rfl,_,rfl,asQ (fun c=>?_) (fun c=>?_)⟩
  ·have X0:0<WM g M / 2^(max (mo-SM M) 0).toNat:=by
    have:0<=WM g M / 2^(max (mo-SM M) 0).toNat:=dA (hc.nn M) (bN (aaS _))
    have c':¬WM g M / 2^(max (mo-SM M) 0).toNat=0:=c
    omega
   obtain⟨l,hl',hj⟩:=axG X0
   obtain⟨b1,b2,b3⟩:=awY hc hno hl' hj
   have far:=az4 M0 492
   have a1':SM M0<=mo:=a1
   have up:=hc.mono (show M+1<=M0+(492:Nat) by omega)
   have hb':=hc.bit M _ (by rw[←adL (hc.nn M)];exact hl')
   refine⟨_,rfl,_,rfl,_,_,rfl,rfl,_,rfl,_,l,rfl,X0,hl',hj,_,_,rfl,rfl,q _ H5 s5 b1 b2 b3 ?_⟩
   omega
  ·refine⟨_,rfl,tt,_,_,_,rfl,rfl,SqT.of (ht5),rfl,_,rfl,tt,_,_,_,rfl,rfl,SqT.of (ht5),rfl,M,rfl,fun t6 H6 s6 h6=>?_⟩
   refine⟨t6,kvs',_,_,_,_,rfl,by rw[show M0+((i+1:Nat):Int)=M+1 by omega];exact h6,s6 _ _ h5,hK5,by omega,s5.trans s6,?_⟩
   rw[show M0+((i+1:Nat):Int)=M+1 by omega]
   exact asR hc hno c
theorem an0:Df P w K mg base "next_from" 11 ["row","moment"] (ao6 K aD aF aG aI aE aB aH aJ aA aK aL):=by
 refine ZZ.dj.dfs sc_next_from (fun vs H Q E h=>?_) (fun f A outer s H vs Q E hr h=>?_)
 ·obtain⟨_,_,_,_,_,_,_,rfl,_⟩:=h
  rfl
 obtain⟨p,mo,m0,m1,m3,kd,kw,rfl,hR,hT,q⟩:=h
 refine⟨_,(ssC (aaH 2 (aFI "row" 0 (arI ZZ) hr (aC (eLam ZZ.cs) (aC (v_ 1) aN))) sc_next_from.nd)
   (ssC (sIf (tCm ag5 (v_ 2) eN) (ss1 (aaG (aaQ (aC eN (aC (aaW aN) aN))))) ssN)
   (ss1 (aaG (aaQ (aC (v_ 2) (aC (eD (aqL ZZ) hr (aC (v_ 0) (aC (v_ 1) (aC (eOp abI (v_ 2) eI) aN)))) aN))))))),?_⟩
 delta aFR av1 axY af1
 refine avU (tN:=aK) hT.1 hT.2 (fun f' HL hL=>⟨_,rfl,_,rfl,fun ha o0 u0 ho r0=>?_⟩)
 obtain⟨hf0,sN,⟨c',ctv,hf,hc⟩,t1⟩:=hL
 have nf:f'≠_:=fun z=>by rw[z,ha] at hf;cases hf
 have nc:c'≠_:=fun z=>by rw[z,ha] at hc;cases hc
 have hg:=hR.ok
 have tab:∀{H'},Same HL H'->amK H' aK aL:=fun s=>ae3 s ⟨t1,am8 sN hT.2⟩
 refine⟨f',mo,aaX (tmF m1 m0) m3 kd kw,rfl,hg,?hD,fun e H' s' ev h1 h2 h3=>⟨s' _ _ aaA,?_⟩,fun H' s' hno=>⟨s' _ _ aaA,?_⟩⟩
 case hD=>
  refine azP ZZ ?hS ?hB1 ?hB2 ((aaF nf).trans hf) ((aaF nc).trans hc) aaA ho r0 (RowR.keepN (sN.trans (abB (akC ha (Same.refl _)))) hR)
  case hS=>exact⟨rfl,rfl,rfl,by decide +kernel,rfl,rfl,by decide +kernel,by decide +kernel⟩
  case hB1=>exact fun s u=>.of_eq rfl
  case hB2=>exact fun A outer s H1 hr=>eMe ZZ.aa.cl (ajZ ZZ) hr (v_ 1) (aC (v_ 0) aN)
 ·have sE:=akC ha s'
  have sNE:=sN.trans (abB sE)
  refine⟨_,rfl,rfl,_,rfl,ifD (fun c=>by cases c) (fun _=>?_)⟩
  refine⟨_,rfl,_,rfl,_,rfl,_,rfl,_,_,rfl,rfl,p,mo,(e-1),m0,m1,m3,kd,kw,rfl,RowR.keepN sNE hR,fun t a b=>h2 t a (by omega),by omega,fun l us sts H2 hl s2 hl2 hP hpc hsz hcv hemp=>⟨(zL 2),fun t ht=>?_⟩⟩
  have s3:=s2.trans (aaB ht (.tup [.int e,.ref l]))
  exact q t l us _ (.int e) (sNE.trans (abB s3)) (tab (sE.trans s3)) (ap6 sNE hl) aaA (aaB ht _ _ _ hl2) (.inl ⟨e,rfl,ev,⟨h1,h2⟩,(fun z=>hemp (by omega)),hsz,sts,Paired.mapP hP (fun _ _ z=>akS (fun b xs hb=>aaB ht _ _ _ hb) z),(by have z:=hcv (by omega);rw[show e-1+1=e by omega] at z;exact z)⟩)
 ·have sE:=akC ha s'
  have sNE:=sN.trans (abB sE)
  refine⟨_,rfl,rfl,_,rfl,ifD (fun _=>?_) (fun c=>absurd rfl c)⟩
  refine⟨(zL 0),fun l hl=>⟨(zL 2),fun t ht=>?_⟩⟩
  have s3:=(aaB hl (.lst [])).trans (aaB ht (.tup [.non,.ref l]))
  exact q t l [] _ .non (sNE.trans (abB s3)) (tab (sE.trans s3)) (ap6 sNE hl) aaA (aaB ht _ _ _ aaA) (.inr ⟨rfl,rfl,hno⟩)
theorem ad2:Df P w K mg base "_law_cell_at" 1 ["_law_script","_law_k"] (ai5 K):=by
 refine ZZ.b8.dfs ajE (fun vs H Q E h=>?_) (fun f cdv A outer s H vs Q E hr h=>?_)
 ·obtain⟨_,_,rfl,_⟩:=h
  rfl
 obtain⟨a,k,rfl,⟨ns,hS⟩,⟨h0,h9⟩,q⟩:=h
 refine⟨_,(ssC (sIf (tCm oLt (v_ 1) (eCB akK ZZ.ag PySem.boot_len (aC (v_ 0) aN))) (ss1 (aaG (eIx xL (v_ 0) (v_ 1)))) ssN)
   (ss1 (aaG (eOp abL (eOp acG (eOp asC (eOp aaM (v_ 1) eI) eI) eI) eI)))),?_⟩
 refine⟨_,rfl,_,rfl,a,_,rfl,.inl hS,_,_,rfl,rfl,_,rfl,?_⟩
 refine ifD (fun c=>?_) (fun c=>?_)
 ·rw[aR] at c
  have hk:k.toNat<ns.length:=by omega
  have ek:k=((k.toNat:Nat):Int):=by omega
  have e:atI (ns.map V.int) k=some (.int ns[k.toNat]):=by
   have z:atI (ns.map V.int) ((k.toNat:Nat):Int)=some (.int ns[k.toNat]):=ae6 (by rw[bF,cH hk];rfl)
   rw[←ek] at z
   exact z
  refine⟨_,rfl,_,rfl,a,_,_,_,rfl,rfl,hS,e,?_⟩
  exact q _
 ·refine⟨_,rfl,_,_,rfl,rfl,_,_,rfl,rfl,⟨by decide,by decide,(by show (k+2).natAbs<2^64;omega)⟩,_,_,rfl,rfl,.inr ⟨by decide,by decide⟩,_,_,rfl,rfl,(by show (0:Int)<15485863;decide),?_⟩
  exact q _
theorem apL:Df P w K mg base "_law_stir" 1 ["_law_number"] (aoM K):=by
 refine ZZ.dk.dfs sc__law_stir (fun vs H Q E h=>?_) (fun f cdv A outer s H vs Q E hr h=>?_)
 ·obtain⟨_,rfl,_⟩:=h
  rfl
 obtain⟨n,rfl,q⟩:=h
 refine⟨_,(ssC (aaH 1 (eOp abL (eOp acG (eOp aaM (eOp abL (v_ 0) (eOp asC eI eI)) eI) eI) eI) sc__law_stir.nd)
   (ssC (aaH 2 (eOp abL (eOp acG (v_ 1) (eOp aaM (eOp abL (v_ 1) eI) eI)) eI) sc__law_stir.nd)
   (ss1 (aaG (eOp abL (eOp acG (v_ 2) (eOp aaM (eOp abL (v_ 2) eI) eI)) eI))))),?_⟩
 refine⟨_,rfl,_,_,rfl,rfl,⟨by decide,by decide,by decide⟩,_,_,rfl,rfl,(by rw[aK6];show (0:Int)<_;decide),_,_,rfl,rfl,_,_,rfl,rfl,.inr ⟨by decide,by decide⟩,_,_,rfl,rfl,(by show (0:Int)<4294967291;decide),?_⟩
 refine⟨_,rfl,_,rfl,_,_,rfl,rfl,(by show (0:Int)<65521;decide),_,_,rfl,rfl,_,_,rfl,rfl,aMV (by decide) (by decide),_,_,rfl,rfl,(by show (0:Int)<999999937;decide),?_⟩
 refine⟨_,rfl,_,rfl,_,_,rfl,rfl,(by show (0:Int)<32749;decide),_,_,rfl,rfl,_,_,rfl,rfl,aMV (by decide) (by decide),_,_,rfl,rfl,(by show (0:Int)<2147483629;decide),?_⟩
 exact q _ (bW _ (by decide)) (cF _ (by decide))
theorem abG:Df P w K mg base "_law_digits" 2 ["_law_cell","_law_sizes","_law_mixed"] (alM K):=by
 refine ZZ.cm.dfs sc__law_digits (fun vs H Q E h=>?_) (fun f cdv A outer s H vs Q E hr h=>?_)
 ·obtain⟨_,_,_,_,rfl,_⟩:=h
  rfl
 obtain⟨c,a,b,ss,rfl,hS,hz,hl,q⟩:=h
 refine⟨_,(ssC (aaH 3 (aaW aN) sc__law_digits.nd)
   (ssC (aaH 2 (eOr (v_ 2) (ai9 (ad5 oLt (eCB aNS ZZ.dw PyProof.Rows.boot_abs (aC (v_ 0) aN)) (eOp asC eI eI)))) sc__law_digits.nd)
   (ssC (ad6 (iL (v_ 1)) (gN 4 sc__law_digits.nd) (ss1 (sIf (tVa (v_ 2)) (ssC (aaH 0 (eD (apL ZZ) hr (aC (v_ 0) aN)) sc__law_digits.nd)
   (ss1 (al1 (apW (v_ 3) (eOp abL (eOp agO (v_ 0) eI) (v_ 4)))))) (ssC (al1 (apW (v_ 3) (eOp abL (v_ 0) (v_ 4))))
   (ss1 (aaH 0 (eOp agO (v_ 0) (v_ 4)) sc__law_digits.nd))))) PassesOwn.never)
   (ss1 (aaG (v_ 3)))))),?_⟩
 refine⟨(zL 0),fun fl hfl=>?_⟩
 refine⟨_,rfl,_,rfl,aFV (fun _=>?_) (fun _=>⟨_,rfl,_,rfl,_,_,rfl,rfl,⟨by decide,by decide,by decide⟩,_,_,rfl,rfl,?_⟩)⟩
 all_goals
  refine⟨_,rfl,a,rfl,⟨_,(aaB hfl _).seq hS⟩,acR (K:=K) (a:=a) (xs:=ss.map V.int) (fun i σ H2=>∃(c':Int) (b':Bool) (u:Option V) (ds:List Int),σ=[some (.int c'),some (.ref a),some (.bl b'),some (.ref fl),u]/\Same H H2/\H2 fl=some (.lst (ds.map V.int))/\Digs ds (ss.take i)) ⟨_,_,_,[],rfl,aaB hfl _,aaA,.nil⟩ (fun i σ H2 _ ⟨_,_,_,_,_,s2,_⟩=>s2.seq hS) ?_ ?_⟩
  ·rintro i x σ H2 hx ⟨c',b',u,ds,rfl,s2,hf,hd⟩
   rw[bF] at hx
   cases e:ss[i]? with
   |none=>rw[e] at hx;cases hx
   |some z=>
    rw[e] at hx
    obtain rfl:V.int z=x:=a8 hx
    have hzz:=hz z (bL e)
    have et:ss.take (i+1)=ss.take i++[z]:=by rw[cE,e];rfl
    have hdl:(ds.map V.int).length<sizeLine:=by
     have q1:=hd.len
     rw[cL] at q1
     rw[aR,dN]
     omega
    have app:∀d:Int,(ds.map V.int)++[V.int d]=(ds++[d]).map V.int:=fun d=>by rw[bD];rfl
    refine⟨_,rfl,_,rfl,?_⟩
    cases b' with
    |true=>
     refine aa2 ⟨_,rfl,_,rfl,fun r hr0 hr1=>?_⟩
     refine⟨_,rfl,.inl ⟨rfl,_,SqL.of hf⟩,_,rfl,_,_,rfl,rfl,⟨by decide,by decide⟩,_,rfl,_,_,rfl,rfl,hzz.1,fl,_,_,rfl,rfl,hf,hdl,?_⟩
     refine⟨_,_,_,ds++[r / 8%z],rfl,abZ hfl s2,by rw[app];exact aaA,?_⟩
     rw[et]
     exact hd.snoc (bW _ (Int.ne_of_gt hzz.1)) (cF _ hzz.1)
    |false=>
     refine aa5 ⟨_,rfl,.inl ⟨rfl,_,SqL.of hf⟩,_,rfl,_,rfl,_,_,rfl,rfl,hzz.1,fl,_,_,rfl,rfl,hf,hdl,?_⟩
     refine⟨_,rfl,_,rfl,_,_,rfl,rfl,hzz,?_⟩
     refine⟨_,_,_,ds++[c'%z],rfl,abZ hfl s2,by rw[app];exact aaA,?_⟩
     rw[et]
     exact hd.snoc (bW _ (Int.ne_of_gt hzz.1)) (cF _ hzz.1)
  ·rintro σ H2 ⟨c',b',u,ds,rfl,s2,hf,hd⟩
   rw[aR,cQ] at hd
   exact⟨_,rfl,q ds fl H2 s2 hf hd⟩
theorem adI:Df P w K mg base "_law_item" 1 ["_law_parts","_law_low","_law_high"] (apK K):=by
 refine ZZ.dl.dfs sc__law_item (fun vs H Q E h=>?_) (fun f cdv A outer s H vs Q E hr h=>?_)
 ·obtain⟨_,_,_,_,_,_,_,rfl,_⟩:=h
  rfl
 obtain⟨p,fm,fi,la,st,lo,hi,rfl,hp,hb,q⟩:=h
 refine⟨_,(ssC (akW (v_ 0) (aE8 (gsC (gN 3 sc__law_item.nd) (gsC (gN 4 sc__law_item.nd) (gsC (gN 5 sc__law_item.nd) (gsC (gN 6 sc__law_item.nd) gsN))))))
   (ssC (aaH 4 (eOp aaM (v_ 1) (eOp abL (v_ 4) (eOp aaM (eOp abI (v_ 2) (v_ 1)) eI))) sc__law_item.nd)
   (ssC (aaH 5 (eOp aaM (v_ 4) (eOp abL (v_ 5) (eOp aaM (eOp abI (v_ 2) (v_ 4)) eI))) sc__law_item.nd)
   (ssC (aaH 6 (eOp aaM eI (eOp abL (v_ 6) eI)) sc__law_item.nd)
   (ssC (sIf (tCm oEq (v_ 3) eI) (ss1 (aaG (aaQ (aC (eSx [42]) (aC (eCT cLR ZZ.an PyProof.Rows.boot_list (aC (eCT aIA ZZ.ab boot_range (aC (v_ 1) (aC (eOp aaM (v_ 2) eI) aN))) aN)) aN))))) ssN)
   (ssC (sIf (tCm oEq (v_ 3) eI) (ss1 (aaG (aaQ (aC (eOp acU (eSx [42,47]) (eCT acV ZZ.ad PyProof.Rows.boot_str (aC (v_ 6) aN))) (aC (eCT cLR ZZ.an PyProof.Rows.boot_list (aC (eCT aBH ZZ.ab boot_range (aC (v_ 1) (aC (eOp aaM (v_ 2) eI) (aC (v_ 6) aN)))) aN)) aN))))) ssN)
   (ssC (sIf (tCm oEq (v_ 3) eI) (ss1 (aaG (aaQ (aC (eCT acV ZZ.ad PyProof.Rows.boot_str (aC (v_ 4) aN)) (aC (aaW (aC (v_ 4) aN)) aN))))) ssN)
   (ssC (sIf (tCm oEq (v_ 3) eI) (ss1 (aaG (aaQ (aC (eOp acU (eOp acU (eCT acV ZZ.ad PyProof.Rows.boot_str (aC (v_ 4) aN)) (eSx [45])) (eCT acV ZZ.ad PyProof.Rows.boot_str (aC (v_ 5) aN))) (aC (eCT cLR ZZ.an PyProof.Rows.boot_list (aC (eCT aIA ZZ.ab boot_range (aC (v_ 4) (aC (eOp aaM (v_ 5) eI) aN))) aN)) aN))))) ssN)
   (ssC (sIf (tCm oEq (v_ 3) eI) (ss1 (aaG (aaQ (aC (eOp acU (eOp acU (eOp acU (eOp acU (eCT acV ZZ.ad PyProof.Rows.boot_str (aC (v_ 4) aN)) (eSx [45])) (eCT acV ZZ.ad PyProof.Rows.boot_str (aC (v_ 5) aN))) (eSx [47])) (eCT acV ZZ.ad PyProof.Rows.boot_str (aC (v_ 6) aN))) (aC (eCT cLR ZZ.an PyProof.Rows.boot_list (aC (eCT aBH ZZ.ab boot_range (aC (v_ 4) (aC (eOp aaM (v_ 5) eI) (aC (v_ 6) aN)))) aN)) aN))))) ssN)
   (ss1 (aaG (aaQ (aC (eOp acU (eOp acU (eCT acV ZZ.ad PyProof.Rows.boot_str (aC (v_ 4) aN)) (eSx [47])) (eCT acV ZZ.ad PyProof.Rows.boot_str (aC (v_ 6) aN))) (aC (eCT cLR ZZ.an PyProof.Rows.boot_list (aC (eCT aBH ZZ.ab boot_range (aC (v_ 4) (aC (eOp aaM (v_ 2) eI) (aC (v_ 6) aN)))) aN)) aN)))))))))))))),?_⟩
 have p1:0<hi-lo+1:=by omega
 have m0:=bW fi (show (hi-lo+1)≠0 by omega)
 have m1:=cF fi p1
 refine⟨_,rfl,p,_,rfl,hp,rfl,_,_,rfl,_,_,rfl,_,_,rfl,_,_,rfl,rfl,?_⟩
 refine⟨_,rfl,_,rfl,_,rfl,_,rfl,_,_,rfl,rfl,_,_,rfl,rfl,_,_,rfl,rfl,p1,_,_,rfl,rfl,?_⟩
 obtain⟨A,eA⟩:∃A,A=lo+fi%(hi-lo+1):=⟨_,rfl⟩
 have a1:lo<=A/\A<=hi:=by omega
 show abX 4 (V.int (lo+fi%(hi-lo+1))) _ _ _
 rw[←eA]
 have p2:0<hi-A+1:=by omega
 have n0:=bW la (show (hi-A+1)≠0 by omega)
 have n1:=cF la p2
 refine⟨_,rfl,_,rfl,_,rfl,_,rfl,_,_,rfl,rfl,_,_,rfl,rfl,_,_,rfl,rfl,p2,_,_,rfl,rfl,?_⟩
 obtain⟨B,eB⟩:∃B,B=A+la%(hi-A+1):=⟨_,rfl⟩
 have b1:A<=B/\B<=hi:=by omega
 show abX 5 (V.int (A+la%(hi-A+1))) _ _ _
 rw[←eB]
 have s0:=bW st (show (99:Int)≠0 by decide)
 have s1:=cF st (show (0:Int)<99 by decide)
 refine⟨_,rfl,_,_,rfl,rfl,(by show (0:Int)<99;decide),_,_,rfl,rfl,?_⟩
 obtain⟨S,eS⟩:∃S,S=1+st%99:=⟨_,rfl⟩
 have ss:1<=S/\S<=99:=by omega
 show abX 6 (V.int (1+st%99)) _ _ _
 rw[←eS]
 have sm:∀z:Int,0<=z->z<=99->z.toNat<10^500/\[V.int z]=[V.int (z.toNat:Nat)]:=fun z h1 h2=>⟨aY (show z.toNat<100 by omega) (by decide +kernel),by rw[bG h1]⟩
 have nl:∀z:Int,0<=z->z<=99->(num z.toNat).length<=2:=fun z h1 h2=>(af6 _ (by omega)).2.2.2
 have na:∀z:Int,0<=z->z<=99->Asc (num z.toNat):=fun z h1 h2=>auC _ (by omega)
 have z4':∀{n m:Nat},n<=20->m<=20->n+m<=sizeLine:=fun {n m} h1 h2=>by rw[dN];omega
 have hA0:0<=A:=cC hb.1 a1.1
 have hA31:A<=63:=cC a1.2 hb.2.2
 have hB0:0<=B:=cC hA0 b1.1
 have hB31:B<=63:=cC b1.2 hb.2.2
 have hl31:lo<=63:=cC hb.2.1 hb.2.2
 have hh0:0<=hi:=cC hb.1 hb.2.1
 have hS0:0<S:=Int.lt_of_lt_of_le (by decide) ss.1
 have hSm:S<=1000:=cC ss.2 (by decide)
 have hSx:S<1073741824:=Int.lt_of_le_of_lt ss.2 (by decide)
 have up:∀{z:Int},z<=63->z<=1000/\z<=99:=fun h=>⟨cC h (by decide),cC h (by decide)⟩
 have dn:∀{z:Int},0<=z-> -1<=z:=fun h=>cC (by decide) h
 have tn:∀{n:Nat},n<=1001->n<=100000:=fun h=>bE h (by decide)
 have t2:∀{n:Nat},n<=2->n<=20/\n+1<=20:=fun h=>⟨bE h (by decide),bE (Nat.add_le_add_right h 1) (by decide)⟩
 have t5:∀{n m:Nat},n<=2->m<=2->n+1+m<=20/\n+1+m+1<=20:=fun h h'=>⟨bE (Nat.add_le_add (Nat.add_le_add_right h 1) h') (by decide),bE (Nat.add_le_add_right (Nat.add_le_add (Nat.add_le_add_right h 1) h') 1) (by decide)⟩
 have qA:=sm A hA0 (up hA31).2
 have qB:=sm B hB0 (up hB31).2
 have qS:=sm S (bN hS0) ss.2
 have lA:=nl A hA0 (up hA31).2
 have lB:=nl B hB0 (up hB31).2
 have lS:=nl S (bN hS0) ss.2
 have cA:=na A hA0 (up hA31).2
 have cB:=na B hB0 (up hB31).2
 have cS:=na S (bN hS0) ss.2
 have c42:Asc [42]:=acB rfl
 have c45:Asc [45]:=acB rfl
 have c47:Asc [47]:=acB rfl
 clear m0 m1 n0 n1 p1 p2 eA eB s0 s1 eS
 refine⟨_,rfl,rfl,_,rfl,ifI (fun c=>?g0) (fun _=>⟨_,rfl,rfl,_,rfl,ifI (fun c=>?g1) (fun _=>⟨_,rfl,rfl,_,rfl,ifI (fun c=>?g2) (fun _=>⟨_,rfl,rfl,_,rfl,ifI (fun c=>?g3) (fun _=>⟨_,rfl,rfl,_,rfl,ifI (fun c=>?g4) (fun _=>?g5)⟩)⟩)⟩)⟩)⟩
 case g0=>
  have n2:=adH (a:=lo) (b:=hi) (s:=1) hb.1 (up hb.2.2).1 (by decide)
  refine⟨_,rfl,_,rfl,_,_,rfl,rfl,_,_,rfl,fun r hr=>⟨r,lo,hi+1,1,(Builtin.Range.rangeSize lo (hi+1) 1).toNat,rfl,aaA,adB hb.1 (up hl31).1 (dn hh0) (up hb.2.2).1 (by decide) (by decide),n2.2,tn n2.1,fun u hu=>⟨(zL 2),fun t ht=>?_⟩⟩⟩
  exact q t u [42] (ab0 lo hi 1) _ ((aaB hr _).trans ((aaB hu _).trans (aaB ht _))) aaA ((aaB ht _) _ _ (by rw[acH,bZ];exact aaA)) (i0 hb.1 hb.2.1 hb.2.2) c42
 case g1=>
  have n2:=adH (a:=lo) (b:=hi) (s:=S) hb.1 (up hb.2.2).1 hS0
  refine⟨_,rfl,S.toNat,qS.2,qS.1,_,_,rfl,rfl,z4' (by decide) (t2 lS).1,_,rfl,_,rfl,_,_,rfl,rfl,_,rfl,_,_,_,rfl,⟨hS0,hSx⟩,fun r hr=>⟨r,lo,hi+1,S,(Builtin.Range.rangeSize lo (hi+1) S).toNat,rfl,aaA,adB hb.1 (up hl31).1 (dn hh0) (up hb.2.2).1 hS0 hSm,n2.2,tn n2.1,fun u hu=>⟨(zL 2),fun t ht=>?_⟩⟩⟩
  exact q t u _ (ab0 lo hi S) _ ((aaB hr _).trans ((aaB hu _).trans (aaB ht _))) aaA ((aaB ht _) _ _ (by rw[acH,bZ];exact aaA)) (i3 hb.1 hb.2.1 hb.2.2 ss) (abM (acB rfl) cS)
 case g2=>
  refine⟨_,rfl,A.toNat,qA.2,qA.1,_,rfl,(zL 1),fun u hu=>⟨(zL 2),fun t ht=>?_⟩⟩
  exact q t u _ [A] _ ((aaB hu _).trans (aaB ht _)) aaA ((aaB ht _) _ _ aaA) (i1 hb.1 a1.1 a1.2 hb.2.2) cA
 case g3=>
  have n2:=adH (a:=A) (b:=B) (s:=1) hA0 (up hB31).1 (by decide)
  refine⟨_,rfl,A.toNat,qA.2,qA.1,_,_,rfl,rfl,z4' (t2 lA).1 (by decide),_,rfl,B.toNat,qB.2,qB.1,_,_,rfl,rfl,z4' (by rw[aU];exact (t2 lA).2) (t2 lB).1,_,rfl,_,rfl,_,_,rfl,rfl,_,_,rfl,fun r hr=>⟨r,A,B+1,1,(Builtin.Range.rangeSize A (B+1) 1).toNat,rfl,aaA,adB hA0 (up hA31).1 (dn hB0) (up hB31).1 (by decide) (by decide),n2.2,tn n2.1,fun u hu=>⟨(zL 2),fun t ht=>?_⟩⟩⟩
  exact q t u _ (ab0 A B 1) _ ((aaB hr _).trans ((aaB hu _).trans (aaB ht _))) aaA ((aaB ht _) _ _ (by rw[acH,bZ];exact aaA)) (by rw[List.append_assoc];exact i2 hb.1 a1.1 b1.1 b1.2 hb.2.2) (abM (abM cA c45) cB)
 case g4=>
  have n2:=adH (a:=A) (b:=B) (s:=S) hA0 (up hB31).1 hS0
  refine⟨_,rfl,A.toNat,qA.2,qA.1,_,_,rfl,rfl,z4' (t2 lA).1 (by decide),_,rfl,B.toNat,qB.2,qB.1,_,_,rfl,rfl,z4' (by rw[aU];exact (t2 lA).2) (t2 lB).1,_,_,rfl,rfl,z4' (by rw[aU,aU];exact (t5 lA lB).1) (by decide),_,rfl,S.toNat,qS.2,qS.1,_,_,rfl,rfl,z4' (by rw[aU,aU,aU];exact (t5 lA lB).2) (t2 lS).1,_,rfl,_,rfl,_,_,rfl,rfl,_,rfl,_,_,_,rfl,⟨hS0,hSx⟩,fun r hr=>⟨r,A,B+1,S,(Builtin.Range.rangeSize A (B+1) S).toNat,rfl,aaA,adB hA0 (up hA31).1 (dn hB0) (up hB31).1 hS0 hSm,n2.2,tn n2.1,fun u hu=>⟨(zL 2),fun t ht=>?_⟩⟩⟩
  have e5:((num A.toNat++[45])++num B.toNat++[47])++num S.toNat=(num A.toNat++45::num B.toNat)++47::num S.toNat:=by simp
  exact q t u _ (ab0 A B S) _ ((aaB hr _).trans ((aaB hu _).trans (aaB ht _))) aaA ((aaB ht _) _ _ (by rw[acH,bZ];exact aaA)) (by rw[e5];exact i5 hb.1 a1.1 b1.1 b1.2 hb.2.2 ss) (abM (abM (abM (abM cA c45) cB) c47) cS)
 case g5=>
  have n2:=adH (a:=A) (b:=hi) (s:=S) hA0 (up hb.2.2).1 hS0
  refine⟨_,rfl,A.toNat,qA.2,qA.1,_,_,rfl,rfl,z4' (t2 lA).1 (by decide),_,rfl,S.toNat,qS.2,qS.1,_,_,rfl,rfl,z4' (by rw[aU];exact (t2 lA).2) (t2 lS).1,_,rfl,_,rfl,_,_,rfl,rfl,_,rfl,_,_,_,rfl,⟨hS0,hSx⟩,fun r hr=>⟨r,A,hi+1,S,(Builtin.Range.rangeSize A (hi+1) S).toNat,rfl,aaA,adB hA0 (up hA31).1 (dn hh0) (up hb.2.2).1 hS0 hSm,n2.2,tn n2.1,fun u hu=>⟨(zL 2),fun t ht=>?_⟩⟩⟩
  exact q t u _ (ab0 A hi S) _ ((aaB hr _).trans ((aaB hu _).trans (aaB ht _))) aaA ((aaB ht _) _ _ (by rw[acH,bZ];exact aaA)) (by rw[List.append_assoc];exact i4 hb.1 a1.1 a1.2 hb.2.2 ss) (abM (abM cA c47) cS)
theorem ab7:Df P w K mg base "_law_numbers" 3 ["_law_cell","_law_low","_law_high","_law_mixed"] (ajA K):=by
 refine ZZ.b9.dfs sc__law_numbers (fun vs H Q E h=>?_) (fun f cdv A outer s H vs Q E hr h=>?_)
 ·obtain⟨_,_,_,_,rfl,_⟩:=h
  rfl
 obtain⟨c,lo,hi,bm,rfl,hb,q⟩:=h
 refine⟨_,(ssC (aaH 4 (eOp aaM (eOp abI (v_ 2) (v_ 1)) eI) sc__law_numbers.nd)
   (ssC (aaH 5 (eD (abG ZZ) hr (aC (v_ 0) (aC (eOp ayD (aaW (aC eI aN)) (eOp axQ (aaW (aC eI (aC (v_ 4) (aC (v_ 4) (aC eI aN))))) eI)) (aC (v_ 3) aN)))) sc__law_numbers.nd)
   (ssC (aaH 6 (aaW aN) sc__law_numbers.nd)
   (ssC (aaH 7 (aaW aN) sc__law_numbers.nd)
   (ssC (ad6 (iR1 ZZ.ab (aC (eOp aaM eI (eIx xL (v_ 5) eI)) aN)) (gN 8 sc__law_numbers.nd) (ssC (akW (eD (adI ZZ) hr (aC (eSl slL (v_ 5) (poS (eOp aaM eI (eOp acG eI (v_ 8)))) (poS (eOp aaM eI (eOp acG eI (v_ 8))))) (aC (v_ 1) (aC (v_ 2) aN)))) (gTu (gsC (gN 9 sc__law_numbers.nd) (gsC (gN 10 sc__law_numbers.nd) gsN))))
   (ssC (al1 (apW (v_ 6) (v_ 9)))
   (ss1 (aaH 7 (eOp ag2 (v_ 7) (v_ 10)) sc__law_numbers.nd)))) PassesOwn.never)
   (ss1 (aaG (aaQ (aC (auE (eSx [44]) (v_ 6)) (aC (v_ 7) aN)))))))))),?_⟩
 have hwd:(0:Int)<hi-lo+1/\hi-lo+1<1073741824:=by omega
 refine⟨_,rfl,_,rfl,_,_,rfl,rfl,_,_,rfl,rfl,?_⟩
 obtain⟨W,eW⟩:∃W,W=hi-lo+1:=⟨_,rfl⟩
 show abX 4 (V.int (hi-lo+1)) _ _ _
 rw[←eW]
 have e13:∀z∈([3,6,W,W,99,6,W,W,99,6,W,W,99]:List Int),0<z/\z<1073741824:=fun z hz=>by
  simp only[aW,bS,or_false] at hz
  omega
 refine⟨_,rfl,(zL 1),fun x1 n1=>⟨_,rfl,_,rfl,(zL 4),fun x2 n2=>⟨x2,3,_,rfl,rfl,aaA,(by decide),(by decide),(zL 12),fun x3 n3=>⟨x1,x3,_,_,rfl,rfl,(aaB n3 _) _ _ ((aaB n2 _) _ _ aaA),aaA,(zL 13),fun ls hls=>⟨_,rfl,c,ls,bm,[3,6,W,W,99,6,W,W,99,6,W,W,99],rfl,SqL.of aaA,e13,(by show 13<=63;decide),fun ds p H3 s3 hp hd=>?_⟩⟩⟩⟩⟩
 have s13:Same H H3:=(aaB n1 _).trans ((aaB n2 _).trans ((aaB n3 _).trans ((aaB hls _).trans s3)))
 obtain⟨d0,e0,k0,k1⟩:=abR (i:=0) hd rfl
 refine⟨(zL 0),fun T hT=>⟨(zL 0),fun N0 hN0=>?_⟩⟩
 have s1:=(aaB hT (.lst [])).trans (aaB hN0 (.lst []))
 have hTN:T≠N0:=fun e=>by rw[←e,aaA] at hN0;cases hN0
 refine⟨_,rfl,p,_,_,_,rfl,rfl,SqL.of (s1 _ _ hp),ab1 e0,_,_,rfl,rfl,_,rfl,?lo,?hi,ab2 (fun i σ H2=>∃(v8 v9 v10:Option V) (N:Addr) (ws:List (List Nat)) (nss:List (List Int)),σ=[some (.int c),some (.int lo),some (.int hi),some (.bl bm),some (.int W),some (.ref p),some (.ref T),some (.ref N),v8,v9,v10]/\T≠N/\Same H3 H2/\H2 T=some (.lst (ws.map fun x=>V.str (Tx x)))/\H2 N=some (.lst (nss.flatten.map V.int))/\Paired (ad4 lo hi) ws nss/\ws.length=i) ⟨_,_,_,N0,[],[],rfl,hTN,s1,by rw[aaF hTN];exact aaA,aaA,.nil,rfl⟩ ?turn ?done⟩
 case lo=>omega
 case hi=>omega
 case turn=>
  rintro i σ H2 hi' ⟨v8,v9,v10,N,ws,nss,rfl,tn,s2p,h2,h3,hP,lw⟩
  have hi3:i<3:=by omega
  obtain⟨w1,w2,w3,w4,ec,_⟩:∃w1 w2 w3 w4:Int,aaV (ds.map V.int) (some (1+4*(0+(i:Int)))) (some (5+4*(0+(i:Int))))=[.int w1,.int w2,.int w3,.int w4]/\True:=by
   obtain⟨w1,w2,w3,w4,ec,_⟩:=ayO (j:=1+4*i) (s0:=6) (s1:=W) (s2:=W) (s3:=99) hd (by match i,hi3 with | 0,_=>rfl | 1,_=>rfl | 2,_=>rfl) (show 1+4*(0+(i:Int))=((1+4*i:Nat):Int) by omega) (show 5+4*(0+(i:Int))=((1+4*i:Nat):Int)+4 by omega)
   exact⟨w1,w2,w3,w4,ec,trivial⟩
  refine⟨_,rfl,_,rfl,_,_,rfl,rfl,.inl ⟨by decide,by decide⟩,_,_,rfl,rfl,_,rfl,_,rfl,_,_,rfl,rfl,.inl ⟨by decide,by decide⟩,_,_,rfl,rfl,_,rfl,p,_,rfl,SqL.of (s2p _ _ hp),fun pc hpc=>?_⟩
  rw[ec]
  have s5:=aaB hpc (.lst [V.int w1,V.int w2,V.int w3,V.int w4])
  refine⟨_,rfl,_,rfl,pc,w1,w2,w3,w4,lo,hi,rfl,SqL.of aaA,⟨hb.1,by omega,by omega⟩,fun t u tw ns H6 s6 ht hu it _=>?_⟩
  have s26:Same H2 H6:=s5.trans s6
  refine⟨t,_,rfl,SqT.of ht,rfl,_,_,rfl,_,_,rfl,rfl,?_⟩
  have hT6:H6 T=some (.lst (ws.map fun x=>V.str (Tx x))):=s26 _ _ h2
  have hN6:H6 N=some (.lst (nss.flatten.map V.int)):=s26 _ _ h3
  have ia:=acK hP
  refine⟨_,rfl,.inl ⟨rfl,_,SqL.of hT6⟩,_,rfl,T,_,_,rfl,rfl,hT6,(by rw[aR,dN];omega),?_⟩
  have hne2:u≠T:=fun e=>by
   rw[e,hT6] at hu
   have hz:=it.2.2.2.1
   cases ws with
   |nil=>cases ns with
    |nil=>exact hz rfl
    |cons x y=>cases hu
   |cons x y=>cases ns with
    |nil=>exact hz rfl
    |cons x' y'=>cases hu
  refine⟨_,rfl,_,rfl,N,u,_,_,rfl,rfl,SqL.of (by rw[aaF (Ne.symm tn)];exact hN6),SqL.of (by rw[aaF hne2];exact hu),(by rw[aR,aR,dN];have:=it.2.2.2.2;omega),fun N' hN'=>?_⟩
  have hN'T:T≠N':=fun e=>by rw[←e,aaA] at hN';cases hN'
  refine⟨_,_,_,N',ws++[tw],nss++[ns],rfl,hN'T,?_,?_,?_,ac2 hP it,by rw[aU,bM,lw]⟩
  ·exact (abZ hT (s2p.trans s26)).trans (aaB hN' _)
  ·rw[aaF hN'T,bD]
   exact aaA
  ·rw[List.flatten_append,List.flatten_singleton,bD]
   exact aaA
 case done=>
  rintro σ H2 ⟨v8,v9,v10,N,ws,nss,rfl,tn,s2p,h2,h3,hP,lw⟩
  have ia:=acK hP
  have hlen:=adA ws fun x hx=>(ia.1 x hx).2.2
  have hne:ws≠[]:=fun e=>by rw[e] at lw;simp at lw;omega
  refine⟨rfl,_,rfl,44,T,ws,rfl,rfl,SqL.of h2,(by omega),_,rfl,(zL 2),fun t ht=>?_⟩
  exact q t N _ nss.flatten _ (s13.trans (s2p.trans (aaB ht _))) aaA ((aaB ht _) _ _ h3) ia.2.1 (aAA hP hne) (by have:=ia.2.2;omega) (ad9 hP hne (by omega))
theorem aoH:Df P w K mg base "_law_days" 3 ["_law_cell","_law_mixed"] (ao2 K):=by
 refine ZZ.dm.dfs sc__law_days (fun vs H Q E h=>?_) (fun f cdv A outer s H vs Q E hr h=>?_)
 ·obtain⟨_,_,rfl,_⟩:=h
  rfl
 obtain⟨c,bm,rfl,q⟩:=h
 refine⟨_,(ssC (aaH 2 (eD (abG ZZ) hr (aC (v_ 0) (aC (eOp ayD (aaW (aC eI (aC eI aN))) (eOp axQ (aaW (ayF [8,6,31,31,99])) eI)) (aC (v_ 1) aN)))) sc__law_days.nd)
   (ssC (aaH 3 (aaW aN) sc__law_days.nd)
   (ssC (aaH 4 (aaW aN) sc__law_days.nd)
   (ssC (ad6 (iR1 ZZ.ab (aC (eOp aaM eI (eIx xL (v_ 2) eI)) aN)) (gN 5 sc__law_days.nd) (ssC (akW (eSl slL (v_ 2) (poS (eOp aaM eI (eOp acG eI (v_ 5)))) (poS (eOp aaM eI (eOp acG eI (v_ 5))))) (aE8 (gsC (gN 6 sc__law_days.nd) (gsC (gN 7 sc__law_days.nd) (gsC (gN 8 sc__law_days.nd) (gsC (gN 9 sc__law_days.nd) (gsC (gN 10 sc__law_days.nd) gsN)))))))
   (ssC (akW (eD (adI ZZ) hr (aC (aaW (aC (v_ 7) (aC (v_ 8) (aC (v_ 9) (aC (v_ 10) aN))))) (aC eI (aC eI aN)))) (gTu (gsC (gN 11 sc__law_days.nd) (gsC (gN 12 sc__law_days.nd) gsN))))
   (ssK (aaH 13 (aaQ (aC (eSx [110,117,109]) (aC (v_ 12) (aC eI aN)))) sc__law_days.nd)
   (ssK (sIf (tCm oEq (v_ 6) eI) (ss1 (akW (aaQ (aC (eSx [76]) (aC (aaQ (aC (eSx [108,97,115,116]) (aC eI (aC eI aN)))) aN))) (gTu (gsC (gN 11 sc__law_days.nd) (gsC (gN 13 sc__law_days.nd) gsN))))) ssN)
   (ssK (sIf (tCm oEq (v_ 6) eI) (ss1 (aAV 11 13 (aC (eOp acU (eSx [76,45]) (eCT acV ZZ.ad PyProof.Rows.boot_str (aC (eOp aaM eI (eOp abL (v_ 8) eI)) aN))) (aC (aaQ (aC (eSx [108,97,115,116]) (aC (eOp aaM eI (eOp abL (v_ 8) eI)) (aC eI aN)))) aN)) sc__law_days.nd)) ssN)
   (ssK (sIf (tCm oEq (v_ 6) eI) (ss1 (aAV 11 13 (aC (eOp acU (eCT acV ZZ.ad PyProof.Rows.boot_str (aC (eOp aaM eI (v_ 8)) aN)) (eSx [87])) (aC (aaQ (aC (eSx [110,101,97,114]) (aC (eOp aaM eI (v_ 8)) (aC eI aN)))) aN)) sc__law_days.nd)) ssN)
   (ssK (sIf (tCm oEq (v_ 6) eI) (ss1 (akW (aaQ (aC (eSx [76,87]) (aC (aaQ (aC (eSx [119,111,114,107]) (aC eI (aC eI aN)))) aN))) (gTu (gsC (gN 11 sc__law_days.nd) (gsC (gN 13 sc__law_days.nd) gsN))))) ssN)
   (ssC (al1 (apW (v_ 3) (v_ 11)))
   (ss1 (al1 (apW (v_ 4) (v_ 13)))))))))))) PassesOwn.never)
   (ssC (sIf (tW (wOr (tCm oEq (eIx xL (v_ 2) eI) eI) (afJ (tCm (aKQ hr.units) (v_ 3) (aaW (aC (eSx [42]) aN)))))) (ss1 (aaG (aaQ (aC (eSx [42]) (aC eN aN))))) ssN)
   (ss1 (aaG (aaQ (aC (auE (eSx [44]) (v_ 3)) (aC (v_ 4) aN)))))))))),?_⟩
 have e17:∀z∈([3,3,8,6,31,31,99,8,6,31,31,99,8,6,31,31,99]:List Int),0<z/\z<1073741824:=by decide +kernel
 refine⟨_,rfl,(zL 2),fun x1 n1=>⟨(zL 5),fun x2 n2=>⟨x2,3,_,rfl,rfl,aaA,(by decide),(by decide),(zL 15),fun x3 n3=>⟨x1,x3,_,_,rfl,rfl,(aaB n3 _) _ _ ((aaB n2 _) _ _ aaA),aaA,(zL 17),fun ls hls=>⟨_,rfl,c,ls,bm,[3,3,8,6,31,31,99,8,6,31,31,99,8,6,31,31,99],rfl,SqL.of aaA,e17,(by show 17<=63;decide),fun ds p H3 s3 hp hd=>?_⟩⟩⟩⟩⟩
 have s13:Same H H3:=(aaB n1 _).trans ((aaB n2 _).trans ((aaB n3 _).trans ((aaB hls _).trans s3)))
 obtain⟨d0,e0,_,_⟩:=abR (i:=0) hd rfl
 obtain⟨d1,e1,k0,k1⟩:=abR (i:=1) hd rfl
 refine⟨(zL 0),fun T hT=>⟨(zL 0),fun S hSn=>?_⟩⟩
 have s1:=(aaB hT (.lst [])).trans (aaB hSn (.lst []))
 have hTS:T≠S:=fun e=>by rw[←e,aaA] at hSn;cases hSn
 have hSn':H3 S=none:=by rw[aaF (Ne.symm hTS)] at hSn;exact hSn
 refine⟨_,rfl,p,_,_,_,rfl,rfl,SqL.of (s1 _ _ hp),ab1 e1,_,_,rfl,rfl,_,rfl,?lo,?hi,ab2 (InD false c bm p T S H3) ⟨_,_,_,_,_,_,_,_,_,[],[],[],rfl,s1,by rw[aaF hTS];exact aaA,aaA,.nil,(fun k hk=>nomatch hk),(fun w hw=>nomatch hw),rfl,rfl⟩ ?turn ?done⟩
 case lo=>omega
 case hi=>omega
 case turn=>
  rintro i σ H2 hi' ⟨v5,v6,v7,v8,v9,v10,v11,v12,v13,ws,us,ks,rfl,s2p,h2,h3,hW,hO,hA,lw,lu⟩
  have hi3:i<3:=by omega
  obtain⟨w1,w2,w3,w4,w5,ec,k3⟩:=asB (j:=2+5*i) (s0:=8) (s1:=6) (s2:=31) (s3:=31) (s4:=99) hd (by match i,hi3 with | 0,_=>rfl | 1,_=>rfl | 2,_=>rfl) (show 2+5*(0+(i:Int))=((2+5*i:Nat):Int) by omega) (show 7+5*(0+(i:Int))=((2+5*i:Nat):Int)+5 by omega)
  refine⟨_,rfl,_,rfl,_,_,rfl,rfl,.inl ⟨by decide,by decide⟩,_,_,rfl,rfl,_,rfl,_,rfl,_,_,rfl,rfl,.inl ⟨by decide,by decide⟩,_,_,rfl,rfl,_,rfl,p,_,rfl,SqL.of (s2p _ _ hp),fun pc hpc=>?_⟩
  rw[ec]
  refine⟨pc,_,rfl,SqL.of aaA,rfl,_,_,rfl,_,_,rfl,_,_,rfl,_,_,rfl,_,_,rfl,rfl,?_⟩
  have s5:=aaB hpc (.lst [V.int w1,V.int w2,V.int w3,V.int w4,V.int w5])
  refine⟨_,rfl,_,rfl,_,rfl,_,rfl,(zL 4),fun qa hqa=>⟨qa,w2,w3,w4,w5,1,31,rfl,SqL.of aaA,⟨by decide,by decide,by decide⟩,fun t u0 tw ns H6 s6 ht hu it asc=>?_⟩⟩
  have s26:Same H2 H6:=s5.trans ((aaB hqa _).trans s6)
  refine⟨t,_,rfl,SqT.of ht,rfl,_,_,rfl,_,_,rfl,rfl,?_⟩
  have hin:=it.2.2.1
  have hlen':=it.2.2.2.2
  have hpos:=ahE it.2.2.2.1 (fun n hn=>by have:=hin n hn;omega)
  refine⟨(WdD false c bm p T S i w1 w2 w3 w4 w5 u0 H2),⟨_,rfl,(zL 3),fun mk hmk=>⟨tw,.num (aaN ns),mk,rfl,s26.trans (aaB hmk _),⟨it.2.1,rfl,it.1,hpos⟩,⟨rfl,rfl,bN hpos⟩,asc⟩⟩,?_⟩
  rintro σ' H7 ⟨tw',k',mk,rfl,s7,hcs,hok,ha⟩
  refine⟨(WdD false c bm p T S i w1 w2 w3 w4 w5 u0 H2),?_,?_⟩
  ·refine⟨_,rfl,rfl,_,rfl,ifI (fun c=>?_) (fun _=>⟨tw',k',mk,rfl,s7,hcs,hok,ha⟩)⟩
   refine⟨(zL 3),fun u hu=>⟨(zL 2),fun t2 ht2=>⟨t2,_,rfl,SqT.of aaA,rfl,_,_,rfl,_,_,rfl,rfl,?_⟩⟩⟩
   exact⟨[76],.lst 0,u,rfl,s7.trans ((aaB hu _).trans (aaB ht2 _)),⟨ay8.2,ay8.1⟩,⟨rfl,rfl,by decide,by decide⟩,acB rfl⟩
  rintro σ' H7 ⟨tw',k',mk,rfl,s7,hcs,hok,ha⟩
  refine⟨(WdD false c bm p T S i w1 w2 w3 w4 w5 u0 H2),?_,?_⟩
  ·obtain⟨n1,n2,n3,n4,n5,n6⟩:=aBD w3
   refine⟨_,rfl,rfl,_,rfl,ifI (fun c=>?_) (fun _=>⟨tw',k',mk,rfl,s7,hcs,hok,ha⟩)⟩
   refine⟨_,rfl,_,_,rfl,rfl,(by show (0:Int)<30;decide),_,_,rfl,rfl,(1+w3%30).toNat,n2,n1,_,_,rfl,rfl,n3,_,rfl,_,_,rfl,rfl,(by show (0:Int)<30;decide),_,_,rfl,rfl,(zL 3),fun u hu=>?_⟩
   exact⟨_,_,rfl,⟨_,.lst (1+w3%30),u,rfl,s7.trans (aaB hu _),n4,n5,n6⟩⟩
  rintro σ' H7 ⟨tw',k',mk,rfl,s7,hcs,hok,ha⟩
  refine⟨(WdD false c bm p T S i w1 w2 w3 w4 w5 u0 H2),?_,?_⟩
  ·obtain⟨n1,n2,n3,n4,n5,n6⟩:=aB8 k3.1 k3.2
   refine⟨_,rfl,rfl,_,rfl,ifI (fun c=>?_) (fun _=>⟨tw',k',mk,rfl,s7,hcs,hok,ha⟩)⟩
   refine⟨_,rfl,_,_,rfl,rfl,(1+w3).toNat,n2,n1,_,_,rfl,rfl,n3,_,rfl,_,_,rfl,rfl,(zL 3),fun u hu=>?_⟩
   exact⟨_,_,rfl,⟨_,.nea (1+w3),u,rfl,s7.trans (aaB hu _),n4,n5,n6⟩⟩
  rintro σ' H7 ⟨tw',k',mk,rfl,s7,hcs,hok,ha⟩
  refine⟨(WdD false c bm p T S i w1 w2 w3 w4 w5 u0 H2),?_,?_⟩
  ·refine⟨_,rfl,rfl,_,rfl,ifI (fun c=>?_) (fun _=>⟨tw',k',mk,rfl,s7,hcs,hok,ha⟩)⟩
   refine⟨(zL 3),fun u hu=>⟨(zL 2),fun t2 ht2=>⟨t2,_,rfl,SqT.of aaA,rfl,_,_,rfl,_,_,rfl,rfl,?_⟩⟩⟩
   exact⟨[76,87],.wrk,u,rfl,s7.trans ((aaB hu _).trans (aaB ht2 _)),⟨axK.2,axK.1⟩,⟨rfl,rfl,trivial⟩,acB rfl⟩
  rintro σ' H7 ⟨tw',k',mk,rfl,s7,hcs,hok,ha⟩
  have hT6:H7 T=some (.lst (ws.map fun x=>V.str (Tx x))):=s7 _ _ h2
  have hS6:H7 S=some (.lst (us.map V.ref)):=s7 _ _ h3
  refine⟨_,rfl,.inl ⟨rfl,_,SqL.of hT6⟩,_,rfl,T,_,_,rfl,rfl,hT6,(by rw[aR,dN];omega),?_⟩
  have hS7:(upd H7 T (.lst ((ws.map fun x=>V.str (Tx x))++[.str (Tx tw')]))) S=some (.lst (us.map V.ref)):=by rw[aaF (Ne.symm hTS)];exact hS6
  refine⟨_,rfl,.inl ⟨rfl,_,SqL.of hS7⟩,_,rfl,S,_,_,rfl,rfl,hS7,(by rw[aR,dN];omega),?_⟩
  refine⟨_,_,_,_,_,_,_,_,_,ws++[tw'],us++[mk],ks++[k'],rfl,abZ hSn' (abZ hT (s2p.trans s7)),?_,(by rw[bD];exact aaA),atD hW hcs,(fun k hk=>(bH.mp hk).elim (hO k) fun z=>by rw[bI.mp z];exact hok),(fun w hw=>(bH.mp hw).elim (hA w) fun z=>by rw[bI.mp z];exact ha),(by rw[aU,bM,lw]),(by rw[aU,bM,lu])⟩
  rw[aaF hTS,bD]
  exact aaA
 case done=>
  rintro σ H2 ⟨v5,v6,v7,v8,v9,v10,v11,v12,v13,ws,us,ks,rfl,s2p,h2,h3,hW,hO,hA,lw,lu⟩
  have hlen:=adA ws fun x hx=>(hW.cl x hx).2.2
  have hne:ws≠[]:=fun e=>by rw[e] at lw;simp at lw;omega
  have star:∀{H4:Hp},Same H2 H4->∀t,H4 t=none->Q (.ref t) (upd H4 t (.tup [.str (Tx [42]),.non])):=fun s4 t ht=>q t [42] .non none _ (s13.trans (s2p.trans (s4.trans (aaB ht _)))) aaA (adK false)
  refine⟨_,rfl,p,_,_,_,rfl,rfl,SqL.of (s2p _ _ hp),ab1 e0,rfl,_,rfl,ifI (fun _=>aa2 ⟨(zL 2),star (Same.refl _)⟩) (fun _=>⟨_,rfl,(zL 1),fun l1 hl1=>?_⟩)⟩
  have sl:=aaB hl1 (.lst [V.str (Tx [42])])
  refine⟨T,l1,ws,[[42]],rfl,rfl,SqL.of (sl _ _ h2),SqL.of aaA,hA,(fun w hw=>by rw[bI.mp hw];exact acB rfl),_,rfl,ifD (fun _=>⟨(zL 2),star sl⟩) (fun _=>?_)⟩
  refine⟨rfl,_,rfl,44,T,ws,rfl,rfl,SqL.of (sl _ _ h2),(by omega),_,rfl,(zL 2),fun t ht=>?_⟩
  obtain⟨ko,hko⟩:=apV hW hne (by omega) hO
  exact q t _ (.ref S) ko _ (s13.trans (s2p.trans (sl.trans (aaB ht _)))) aaA hko
theorem ahF:Df P w K mg base "_law_weekdays" 3 ["_law_cell","_law_mixed"] (ahJ K):=by
 refine ZZ.bx.dfs sc__law_weekdays (fun vs H Q E h=>?_) (fun f cdv A outer s H vs Q E hr h=>?_)
 ·obtain⟨_,_,rfl,_⟩:=h
  rfl
 obtain⟨c,bm,rfl,q⟩:=h
 refine⟨_,(ssC (aaH 2 (eD (abG ZZ) hr (aC (v_ 0) (aC (eOp ayD (aaW (aC eI (aC eI aN))) (eOp axQ (aaW (ayF [6,6,8,8,99])) eI)) (aC (v_ 1) aN)))) sc__law_weekdays.nd)
   (ssC (aaH 3 (aaW aN) sc__law_weekdays.nd)
   (ssC (aaH 4 (aaW aN) sc__law_weekdays.nd)
   (ssC (ad6 (iR1 ZZ.ab (aC (eOp aaM eI (eIx xL (v_ 2) eI)) aN)) (gN 5 sc__law_weekdays.nd) (ssC (akW (eSl slL (v_ 2) (poS (eOp aaM eI (eOp acG eI (v_ 5)))) (poS (eOp aaM eI (eOp acG eI (v_ 5))))) (aE8 (gsC (gN 6 sc__law_weekdays.nd) (gsC (gN 7 sc__law_weekdays.nd) (gsC (gN 8 sc__law_weekdays.nd) (gsC (gN 9 sc__law_weekdays.nd) (gsC (gN 10 sc__law_weekdays.nd) gsN)))))))
   (ssC (akW (eD (adI ZZ) hr (aC (aaW (aC (v_ 7) (aC (v_ 8) (aC (v_ 9) (aC (v_ 10) aN))))) (aC eI (aC eI aN)))) (gTu (gsC (gN 11 sc__law_weekdays.nd) (gsC (gN 12 sc__law_weekdays.nd) gsN))))
   (ssK (aaH 13 (aaQ (aC (eSx [119,101,101,107]) (aC (ar3 [] [] (iL (v_ 12)) (fun _ _ _ _ _ _=>fsN) (fun _ _ _ _ _ _=>(eOp abL (v_ 0) eI))) (aC eI aN)))) sc__law_weekdays.nd)
   (ssK (sIf (tW (wOr (tCm oEq (v_ 6) eI) (afJ (tCm oEq (v_ 6) eI)))) (ss1 (aAV 11 13 (aC (eOp acU (eOp acU (eCT acV ZZ.ad PyProof.Rows.boot_str (aC (v_ 8) aN)) (eSx [35])) (eCT acV ZZ.ad PyProof.Rows.boot_str (aC (eOp aaM eI (eOp abL (v_ 9) eI)) aN))) (aC (aaQ (aC (eSx [110,116,104]) (aC (eOp abL (v_ 8) eI) (aC (eOp aaM eI (eOp abL (v_ 9) eI)) aN)))) aN)) sc__law_weekdays.nd)) ssN)
   (ssK (sIf (tCm oEq (v_ 6) eI) (ss1 (aAV 11 13 (aC (eOp acU (eCT acV ZZ.ad PyProof.Rows.boot_str (aC (v_ 8) aN)) (eSx [76])) (aC (aaQ (aC (eSx [101,110,100,105,110,103]) (aC (eOp abL (v_ 8) eI) (aC eI aN)))) aN)) sc__law_weekdays.nd)) ssN)
   (ssC (al1 (apW (v_ 3) (v_ 11)))
   (ss1 (al1 (apW (v_ 4) (v_ 13)))))))))) PassesOwn.never)
   (ssC (sIf (tW (wOr (tCm oEq (eIx xL (v_ 2) eI) eI) (afJ (tCm (aKQ hr.units) (v_ 3) (aaW (aC (eSx [42]) aN)))))) (ss1 (aaG (aaQ (aC (eSx [42]) (aC eN aN))))) ssN)
   (ss1 (aaG (aaQ (aC (auE (eSx [44]) (v_ 3)) (aC (v_ 4) aN)))))))))),?_⟩
 have e17:∀z∈([3,3,6,6,8,8,99,6,6,8,8,99,6,6,8,8,99]:List Int),0<z/\z<1073741824:=by decide +kernel
 refine⟨_,rfl,(zL 2),fun x1 n1=>⟨(zL 5),fun x2 n2=>⟨x2,3,_,rfl,rfl,aaA,(by decide),(by decide),(zL 15),fun x3 n3=>⟨x1,x3,_,_,rfl,rfl,(aaB n3 _) _ _ ((aaB n2 _) _ _ aaA),aaA,(zL 17),fun ls hls=>⟨_,rfl,c,ls,bm,[3,3,6,6,8,8,99,6,6,8,8,99,6,6,8,8,99],rfl,SqL.of aaA,e17,(by show 17<=63;decide),fun ds p H3 s3 hp hd=>?_⟩⟩⟩⟩⟩
 have s13:Same H H3:=(aaB n1 _).trans ((aaB n2 _).trans ((aaB n3 _).trans ((aaB hls _).trans s3)))
 obtain⟨d0,e0,_,_⟩:=abR (i:=0) hd rfl
 obtain⟨d1,e1,k0,k1⟩:=abR (i:=1) hd rfl
 refine⟨(zL 0),fun T hT=>⟨(zL 0),fun S hSn=>?_⟩⟩
 have s1:=(aaB hT (.lst [])).trans (aaB hSn (.lst []))
 have hTS:T≠S:=fun e=>by rw[←e,aaA] at hSn;cases hSn
 have hSn':H3 S=none:=by rw[aaF (Ne.symm hTS)] at hSn;exact hSn
 refine⟨_,rfl,p,_,_,_,rfl,rfl,SqL.of (s1 _ _ hp),ab1 e1,_,_,rfl,rfl,_,rfl,?lo,?hi,ab2 (InD true c bm p T S H3) ⟨_,_,_,_,_,_,_,_,_,[],[],[],rfl,s1,by rw[aaF hTS];exact aaA,aaA,.nil,(fun k hk=>nomatch hk),(fun w hw=>nomatch hw),rfl,rfl⟩ ?turn ?done⟩
 case lo=>omega
 case hi=>omega
 case turn=>
  rintro i σ H2 hi' ⟨v5,v6,v7,v8,v9,v10,v11,v12,v13,ws,us,ks,rfl,s2p,h2,h3,hW,hO,hA,lw,lu⟩
  have hi3:i<3:=by omega
  obtain⟨w1,w2,w3,w4,w5,ec,k3⟩:=asB (j:=2+5*i) (s0:=6) (s1:=6) (s2:=8) (s3:=8) (s4:=99) hd (by match i,hi3 with | 0,_=>rfl | 1,_=>rfl | 2,_=>rfl) (show 2+5*(0+(i:Int))=((2+5*i:Nat):Int) by omega) (show 7+5*(0+(i:Int))=((2+5*i:Nat):Int)+5 by omega)
  refine⟨_,rfl,_,rfl,_,_,rfl,rfl,.inl ⟨by decide,by decide⟩,_,_,rfl,rfl,_,rfl,_,rfl,_,_,rfl,rfl,.inl ⟨by decide,by decide⟩,_,_,rfl,rfl,_,rfl,p,_,rfl,SqL.of (s2p _ _ hp),fun pc hpc=>?_⟩
  rw[ec]
  refine⟨pc,_,rfl,SqL.of aaA,rfl,_,_,rfl,_,_,rfl,_,_,rfl,_,_,rfl,_,_,rfl,rfl,?_⟩
  have s5:=aaB hpc (.lst [V.int w1,V.int w2,V.int w3,V.int w4,V.int w5])
  refine⟨_,rfl,_,rfl,_,rfl,_,rfl,(zL 4),fun qa hqa=>⟨qa,w2,w3,w4,w5,0,7,rfl,SqL.of aaA,⟨by decide,by decide,by decide⟩,fun t u0 tw ns H6 s6 ht hu it asc=>?_⟩⟩
  have s26:Same H2 H6:=s5.trans ((aaB hqa _).trans s6)
  refine⟨t,_,rfl,SqT.of ht,rfl,_,_,rfl,_,_,rfl,rfl,?_⟩
  have hin:=it.2.2.1
  have hlen':=it.2.2.2.2
  have hpos:=ahE it.2.2.2.1 (fun n hn=>by have:=hin n hn;omega)
  refine⟨(WdD true c bm p T S i w1 w2 w3 w4 w5 u0 H2),?_,?_⟩
  ·refine⟨_,rfl,u0,rfl,⟨_,SqL.of hu⟩,anU (xs:=ns.map V.int) (fun i z=>z=((ns.take i).map fun d=>V.int (d%7))) (by rw[aR,dN];omega) rfl (SqL.of hu) ?_ ?_⟩
   ·intro i v z D H4 E' F' hv hR hD s4 hz hE hF
    subst hR
    rw[bF] at hv
    cases ez:ns[i]? with
    |none=>rw[ez] at hv;cases hv
    |some d=>
     rw[ez] at hv
     obtain rfl:V.int d=v:=a8 hv
     exact⟨_,rfl,_,_,rfl,rfl,(by show (0:Int)<7;decide),hE _ _ (Same.refl _) (by rw[cE,ez,bD];rfl)⟩
   ·intro D H4 z hR hD s4 hz
    subst hR
    have hlt:=akH (n:=8) (fun z hz=>by have:=hin z hz;omega)
    have e256:(2:Int)^8=256:=by decide
    have w7:=aCP hpos (show aaN ns<=255 by omega)
    exact⟨(zL 3),fun mk hmk=>⟨tw,.wkd (wk7 (aaN ns)),mk,rfl,s26.trans (s4.trans (aaB hmk _)),⟨it.2.1,rfl,aaN ns,it.1,⟨hpos,by omega⟩,rfl⟩,⟨rfl,rfl,w7.2.1,w7.2.2⟩,asc⟩⟩
  rintro σ' H7 ⟨tw',k',mk,rfl,s7,hcs,hok,ha⟩
  refine⟨(WdD true c bm p T S i w1 w2 w3 w4 w5 u0 H2),?_,?_⟩
  ·obtain⟨⟨p1,p2,p3⟩,⟨n1,n2,n3⟩,n4,n5,n6⟩:=aFK (v:=w4) k3.1 k3.2
   refine⟨_,rfl,rfl,_,rfl,ifI (fun c=>aa2 ?_) (fun _=>⟨_,rfl,rfl,_,rfl,ifI (fun c=>?_) (fun _=>⟨tw',k',mk,rfl,s7,hcs,hok,ha⟩)⟩)⟩
   all_goals
    refine⟨_,rfl,w3.toNat,p2,p1,_,_,rfl,rfl,p3,_,rfl,_,_,rfl,rfl,(by show (0:Int)<5;decide),_,_,rfl,rfl,(1+w4%5).toNat,n2,n1,_,_,rfl,rfl,n3,_,rfl,_,_,rfl,rfl,(by show (0:Int)<7;decide),_,rfl,_,_,rfl,rfl,(by show (0:Int)<5;decide),_,_,rfl,rfl,(zL 3),fun u hu=>?_⟩
    exact⟨_,_,rfl,⟨_,.nth (w3%7) (1+w4%5),u,rfl,s7.trans (aaB hu _),n4,n5,n6⟩⟩
  rintro σ' H7 ⟨tw',k',mk,rfl,s7,hcs,hok,ha⟩
  refine⟨(WdD true c bm p T S i w1 w2 w3 w4 w5 u0 H2),?_,?_⟩
  ·obtain⟨n1,n2,n3,n4,n5,n6⟩:=aFF k3.1 k3.2
   refine⟨_,rfl,rfl,_,rfl,ifI (fun c=>?_) (fun _=>⟨tw',k',mk,rfl,s7,hcs,hok,ha⟩)⟩
   refine⟨_,rfl,w3.toNat,n2,n1,_,_,rfl,rfl,n3,_,rfl,_,_,rfl,rfl,(by show (0:Int)<7;decide),(zL 3),fun u hu=>?_⟩
   exact⟨_,_,rfl,⟨_,.one (w3%7),u,rfl,s7.trans (aaB hu _),n4,n5,n6⟩⟩
  rintro σ' H7 ⟨tw',k',mk,rfl,s7,hcs,hok,ha⟩
  have hT6:H7 T=some (.lst (ws.map fun x=>V.str (Tx x))):=s7 _ _ h2
  have hS6:H7 S=some (.lst (us.map V.ref)):=s7 _ _ h3
  refine⟨_,rfl,.inl ⟨rfl,_,SqL.of hT6⟩,_,rfl,T,_,_,rfl,rfl,hT6,(by rw[aR,dN];omega),?_⟩
  have hS7:(upd H7 T (.lst ((ws.map fun x=>V.str (Tx x))++[.str (Tx tw')]))) S=some (.lst (us.map V.ref)):=by rw[aaF (Ne.symm hTS)];exact hS6
  refine⟨_,rfl,.inl ⟨rfl,_,SqL.of hS7⟩,_,rfl,S,_,_,rfl,rfl,hS7,(by rw[aR,dN];omega),?_⟩
  refine⟨_,_,_,_,_,_,_,_,_,ws++[tw'],us++[mk],ks++[k'],rfl,abZ hSn' (abZ hT (s2p.trans s7)),?_,(by rw[bD];exact aaA),atD hW hcs,(fun k hk=>(bH.mp hk).elim (hO k) fun z=>by rw[bI.mp z];exact hok),(fun w hw=>(bH.mp hw).elim (hA w) fun z=>by rw[bI.mp z];exact ha),(by rw[aU,bM,lw]),(by rw[aU,bM,lu])⟩
  rw[aaF hTS,bD]
  exact aaA
 case done=>
  rintro σ H2 ⟨v5,v6,v7,v8,v9,v10,v11,v12,v13,ws,us,ks,rfl,s2p,h2,h3,hW,hO,hA,lw,lu⟩
  have hlen:=adA ws fun x hx=>(hW.cl x hx).2.2
  have hne:ws≠[]:=fun e=>by rw[e] at lw;simp at lw;omega
  have star:∀{H4:Hp},Same H2 H4->∀t,H4 t=none->Q (.ref t) (upd H4 t (.tup [.str (Tx [42]),.non])):=fun s4 t ht=>q t [42] .non none _ (s13.trans (s2p.trans (s4.trans (aaB ht _)))) aaA (adK true)
  refine⟨_,rfl,p,_,_,_,rfl,rfl,SqL.of (s2p _ _ hp),ab1 e0,rfl,_,rfl,ifI (fun _=>aa2 ⟨(zL 2),star (Same.refl _)⟩) (fun _=>⟨_,rfl,(zL 1),fun l1 hl1=>?_⟩)⟩
  have sl:=aaB hl1 (.lst [V.str (Tx [42])])
  refine⟨T,l1,ws,[[42]],rfl,rfl,SqL.of (sl _ _ h2),SqL.of aaA,hA,(fun w hw=>by rw[bI.mp hw];exact acB rfl),_,rfl,ifD (fun _=>⟨(zL 2),star sl⟩) (fun _=>?_)⟩
  refine⟨rfl,_,rfl,44,T,ws,rfl,rfl,SqL.of (sl _ _ h2),(by omega),_,rfl,(zL 2),fun t ht=>?_⟩
  obtain⟨ko,hko⟩:=apV hW hne (by omega) hO
  exact q t _ (.ref S) ko _ (s13.trans (s2p.trans (sl.trans (aaB ht _)))) aaA hko
theorem aoL:Df P w K mg base "_law_spec" 4 ["_law_cells","_law_mixed"] (aoS K):=by
 refine ZZ.dn.dfs sc__law_spec (fun vs H Q E h=>?_) (fun f cdv A outer s H vs Q E hr h=>?_)
 ·obtain⟨_,_,_,_,_,_,_,rfl,_⟩:=h
  rfl
 obtain⟨a,c0,c1,c2,c3,c4,bm,rfl,hC,q⟩:=h
 refine⟨_,(ssC (aaH 2 (eD (ab7 ZZ) hr (aC (eIx xL (v_ 0) eI) (aC eI (aC eI (aC (v_ 1) aN))))) sc__law_spec.nd)
   (ssC (aaH 3 (eD (ab7 ZZ) hr (aC (eIx xL (v_ 0) eI) (aC eI (aC eI (aC (v_ 1) aN))))) sc__law_spec.nd)
   (ssC (aaH 4 (eD (aoH ZZ) hr (aC (eIx xL (v_ 0) eI) (aC (v_ 1) aN))) sc__law_spec.nd)
   (ssC (aaH 5 (eD (ab7 ZZ) hr (aC (eIx xL (v_ 0) eI) (aC eI (aC eI (aC (v_ 1) aN))))) sc__law_spec.nd)
   (ssC (aaH 6 (eD (ahF ZZ) hr (aC (eIx xL (v_ 0) eI) (aC (v_ 1) aN))) sc__law_spec.nd)
   (ssC (aaH 7 (eD (abG ZZ) hr (aC (eOp aaM (eOp agO (eIx xL (v_ 0) eI) eI) eI) (aC (aaW (aC eI (aC eI (aC eI aN)))) (aC eB aN)))) sc__law_spec.nd)
   (ssK (sIf (tW (al0 (tVa (v_ 1)) (ah9 (tCm oEq (eIx xL (v_ 7) eI) eI)))) (ssC (aaH 5 (aaQ (aC (eSx [50]) (aC (aaW (aC eI aN)) aN))) sc__law_spec.nd)
   (ssC (aaH 4 (aaQ (aC (eSx [50,57]) (aC (aaW (aC (aaQ (aC (eSx [110,117,109]) (aC (aaW (aC eI aN)) (aC eI aN)))) aN)) aN))) sc__law_spec.nd)
   (ssC (aaH 6 (aaQ (aC (eSx [42]) (aC eN aN))) sc__law_spec.nd)
   (ss1 (sIf (tCm oEq (eIx xL (v_ 7) eI) eI) (ssC (aaH 4 (aaQ (aC (eSx [42]) (aC eN aN))) sc__law_spec.nd)
   (ss1 (aaH 6 (aaQ (aC (eOp acU (eCT acV ZZ.ad PyProof.Rows.boot_str (aC (eIx xL (v_ 7) eI) aN)) (eSx [35,53])) (aC (aaW (aC (aaQ (aC (eSx [110,116,104]) (aC (eOp abL (eIx xL (v_ 7) eI) eI) (aC eI aN)))) aN)) aN))) sc__law_spec.nd))) ssN))))) ssN)
   (ssC (aaH 8 (auE (eSx [32]) (aaW (aC (eIx xT (v_ 2) eI) (aC (eIx xT (v_ 3) eI) (aC (eIx xT (v_ 4) eI) (aC (eIx xT (v_ 5) eI) (aC (eIx xT (v_ 6) eI) aN))))))) sc__law_spec.nd)
   (ss1 (aaG (aaQ (aC (v_ 8) (aC (eIx xT (v_ 2) eI) (aC (eIx xT (v_ 3) eI) (aC (eIx xT (v_ 4) eI) (aC (eIx xT (v_ 5) eI) (aC (eIx xT (v_ 6) eI) aN))))))))))))))))),?_⟩
 refine⟨_,rfl,a,_,_,_,rfl,rfl,hC,rfl,_,rfl,c0,0,59,bm,rfl,⟨by decide,by decide,by decide⟩,fun t0 N0 w0 ns0 H1 s1 h0 hN0 in0 ne0 ln0 f0=>?_⟩
 refine⟨_,rfl,a,_,_,_,rfl,rfl,s1.seq hC,rfl,_,rfl,c1,0,23,bm,rfl,⟨by decide,by decide,by decide⟩,fun t1 N1 w1 ns1 H2 s2 h1 hN1 in1 ne1 ln1 f1=>?_⟩
 have s12:=s1.trans s2
 refine⟨_,rfl,a,_,_,_,rfl,rfl,s12.seq hC,rfl,_,rfl,c2,bm,rfl,fun t2 w2 v2 kd H3 s3 h2 d2=>?_⟩
 have s13:=s12.trans s3
 refine⟨_,rfl,a,_,_,_,rfl,rfl,s13.seq hC,rfl,_,rfl,c3,1,12,bm,rfl,⟨by decide,by decide,by decide⟩,fun t3 N3 w3 ns3 H4 s4 h3 hN3 in3 ne3 ln3 f3=>?_⟩
 have s14:=s13.trans s4
 refine⟨_,rfl,a,_,_,_,rfl,rfl,s14.seq hC,rfl,_,rfl,c4,bm,rfl,fun t4 w4 v4 kw H5 s5 h4 d4=>?_⟩
 have s15:=s14.trans s5
 have e3:∀z∈([12,2,8]:List Int),0<z/\z<1073741824:=by decide
 refine⟨_,rfl,a,_,_,_,rfl,rfl,s15.seq hC,rfl,_,_,rfl,rfl,⟨by decide,by decide⟩,_,_,rfl,rfl,(zL 3),fun ls hls=>⟨_,ls,true,[12,2,8],rfl,SqL.of aaA,e3,(by decide),fun ds rr H6 s6 hrr hd=>?_⟩⟩
 obtain⟨r0,er0,_,_⟩:=abR (i:=0) hd rfl
 obtain⟨r1,er1,_,_⟩:=abR (i:=1) hd rfl
 obtain⟨r2,er2,k0,k1⟩:=abR (i:=2) hd rfl
 have s56:=(aaB hls (.lst [V.int 12,V.int 2,V.int 8])).trans s6
 refine⟨(fun σ' H'=>∃(t2' t3' t4' N3':Addr) (w2' w3' w4':List Nat) (v2' v4':V) (m3:Int) (kd' kw':Option (List Mk)),σ'=[some (.ref a),some (.bl bm),some (.ref t0),some (.ref t1),some (.ref t2'),some (.ref t3'),some (.ref t4'),some (.ref rr),none]/\Same H6 H'/\H' t2'=some (.tup [.str (Tx w2'),v2'])/\DT false w2' kd'/\H' t3'=some (.tup [.str (Tx w3'),.ref N3'])/\FT 1 12 w3' m3/\H' t4'=some (.tup [.str (Tx w4'),v4'])/\DT true w4' kw'),?_,?_⟩
 ·have g2:=(s4.trans (s5.trans s56)) _ _ h2
  have g3:=(s5.trans s56) _ _ h3
  have g4:=s56 _ _ h4
  refine⟨_,rfl,_,rfl,?_⟩
  cases bm with
  |false=>exact aa5 (aa5 ⟨t2,t3,t4,N3,w2,w3,w4,v2,v4,_,kd,kw,rfl,Same.refl _,g2,d2,g3,f3,g4,d4⟩)
  |true=>
   refine aa2 ⟨_,rfl,rr,_,_,_,rfl,rfl,SqL.of (hrr),ab1 er0,rfl,_,rfl,ifI (fun _=>?_) (fun _=>⟨t2,t3,t4,N3,w2,w3,w4,v2,v4,_,kd,kw,rfl,Same.refl _,g2,d2,g3,f3,g4,d4⟩)⟩
   obtain⟨k29,d29⟩:=aOH
   refine⟨(zL 1),fun l1 n1=>⟨(zL 2),fun t3' n2=>?_⟩⟩
   refine⟨(zL 1),fun l2 n3=>⟨(zL 3),fun u2 n4=>⟨(zL 1),fun l3 n5=>⟨(zL 2),fun t2' n6=>?_⟩⟩⟩⟩
   refine⟨(zL 2),fun t4' n7=>?_⟩
   have b3:=(aaB n3 (.lst [V.int 29])).trans ((aaB n4 _).trans ((aaB n5 _).trans ((aaB n6 _).trans (aaB n7 (.tup [.str (Tx [42]),.non])))))
   have b7:=aaB n7 (.tup [.str (Tx [42]),.non])
   have b1:=(aaB n1 _).trans ((aaB n2 _).trans b3)
   have g3':=b3 _ _ aaA
   refine⟨_,rfl,rr,_,_,_,rfl,rfl,SqL.of (b1 _ _ hrr),ab1 er1,rfl,_,rfl,ifI (fun _=>?_) (fun _=>⟨t2',t3',t4',l1,[50,57],[50],[42],_,_,_,_,_,rfl,b1,b7 _ _ aaA,d29,g3',ayX,aaA,adK true⟩)⟩
   have sm:r2.toNat<10^500/\[V.int r2]=[V.int (r2.toNat:Nat)]:=⟨aY (show r2.toNat<100 by omega) (by decide +kernel),by rw[bG k0]⟩
   have nl:=(af6 r2.toNat (by omega)).2.2.2
   obtain⟨k5,d5⟩:=aBB k0 k1
   refine⟨(zL 2),fun t2'' n8=>?_⟩
   have b8:=aaB n8 (.tup [.str (Tx [42]),.non])
   refine⟨_,rfl,rr,_,_,_,rfl,rfl,SqL.of (b8 _ _ (b1 _ _ hrr)),ab1 er2,r2.toNat,sm.2,sm.1,_,_,rfl,rfl,(by rw[dN];show _+2<=_;omega),_,rfl,rr,_,_,_,rfl,rfl,SqL.of (b8 _ _ (b1 _ _ hrr)),ab1 er2,_,_,rfl,rfl,(by show (0:Int)<7;decide),(zL 3),fun u3 n9=>⟨(zL 1),fun l4 n10=>⟨(zL 2),fun t4'' n11=>?_⟩⟩⟩
   have b9:=(aaB n9 _).trans ((aaB n10 _).trans (aaB n11 (.tup [.str (Tx (num r2.toNat++[35,53])),.ref l4])))
   exact⟨t2'',t3',t4'',l1,[42],[50],_,_,_,_,_,_,rfl,b1.trans (b8.trans b9),b9 _ _ aaA,adK false,b9 _ _ (b8 _ _ g3'),ayX,aaA,d5⟩
 rintro σ' H7 ⟨t2',t3',t4',N3',w2',w3',w4',v2',v4',m3,kd',kw',rfl,s7,g2,d2',g3,f3',g4,d4'⟩
 have s57:=s56.trans s7
 have g0:=(s2.trans (s3.trans (s4.trans (s5.trans s57)))) _ _ h0
 have g1:=(s3.trans (s4.trans (s5.trans s57))) _ _ h1
 refine⟨rfl,_,rfl,t0,_,_,_,rfl,rfl,SqT.of (g0),rfl,_,rfl,t1,_,_,_,rfl,rfl,SqT.of (g1),rfl,_,rfl,t2',_,_,_,rfl,rfl,SqT.of (g2),rfl,_,rfl,t3',_,_,_,rfl,rfl,SqT.of (g3),rfl,_,rfl,t4',_,_,_,rfl,rfl,SqT.of (g4),rfl,(zL 5),fun L hL=>?_⟩
 have sL:=aaB hL (.lst [V.str (Tx w0),V.str (Tx w1),V.str (Tx w2'),V.str (Tx w3'),V.str (Tx w4')])
 refine⟨32,L,[w0,w1,w2',w3',w4'],rfl,rfl,SqL.of aaA,?len,?_⟩
 case len=>
  have:=f0.len
  have:=f1.len
  have:=f3'.len
  have:=d2'.2.1.len
  have:=d4'.2.1.len
  show (w0++32::(w1++32::(w2'++32::(w3'++32::w4')))).length<=1000000
  simp only[aU,bU]
  omega
 refine⟨_,rfl,_,rfl,t0,_,_,_,rfl,rfl,SqT.of (sL _ _ g0),rfl,_,rfl,t1,_,_,_,rfl,rfl,SqT.of (sL _ _ g1),rfl,_,rfl,t2',_,_,_,rfl,rfl,SqT.of (sL _ _ g2),rfl,_,rfl,t3',_,_,_,rfl,rfl,SqT.of (sL _ _ g3),rfl,_,rfl,t4',_,_,_,rfl,rfl,SqT.of (sL _ _ g4),rfl,(zL 6),fun t ht=>?_⟩
 have l60:=akH (n:=60) (fun z hz=>by have:=in0 z hz;omega)
 have l24:=akH (n:=24) (fun z hz=>by have:=in1 z hz;omega)
 exact q t w0 w1 w2' w3' w4' _ _ m3 _ _ _ _ _ kd' kw' _ (s15.trans (s57.trans (sL.trans (aaB ht _)))) aaA f0 f1 f3' d2' d4' ⟨l60,l24⟩
theorem al6:Df P w K mg base "_law_start" 1 ["_law_year"] (amN K):=by
 refine ZZ.c3.dfs amJ (fun vs H Q E h=>?_) (fun f cdv A outer s H vs Q E hr h=>?_)
 ·obtain⟨_,rfl,_⟩:=h
  rfl
 obtain⟨y,rfl,hy,q⟩:=h
 refine⟨_,(ss1 (aaG (eOp aaM (eOp abI (eOp aaM (eOp acG eI (v_ 0)) (eOp agO (eOp aaM (v_ 0) eI) eI)) (eOp agO (eOp aaM (v_ 0) eI) eI)) (eOp agO (eOp aaM (v_ 0) eI) eI)))),?_⟩
 exact⟨_,rfl,_,_,rfl,rfl,.inl ⟨by decide,by decide⟩,_,rfl,_,_,rfl,rfl,_,_,rfl,rfl,⟨by decide,by decide⟩,_,_,rfl,rfl,_,rfl,_,_,rfl,rfl,_,_,rfl,rfl,⟨by decide,by decide⟩,_,_,rfl,rfl,_,rfl,_,_,rfl,rfl,_,_,rfl,rfl,⟨by decide,by decide⟩,_,_,rfl,rfl,q _ (by omega)⟩
theorem akN:Df P w K mg base "_law_moment" 3 ["_law_cell","_law_mixed"] (ajY K):=by
 refine ZZ.cn.dfs sc__law_moment (fun vs H Q E h=>?_) (fun f cdv A outer s H vs Q E hr h=>?_)
 ·obtain⟨_,_,rfl,_⟩:=h
  rfl
 obtain⟨c,bm,rfl,q⟩:=h
 refine⟨_,(ssC (aaH 2 (eD (abG ZZ) hr (aC (v_ 0) (aC (aaW (ayF [2401,4,366,3,3,1440,8])) (aC eB aN)))) sc__law_moment.nd)
   (ssC (sIf (tW (wOr (tW (al0 (tNo (tVa (v_ 1))) (ah9 (tCm oGe (eCB aNS ZZ.dw PyProof.Rows.boot_abs (aC (v_ 0) aN)) (eOp asC eI eI))))) (afJ (tCm oEq (eIx xL (v_ 2) eI) eI)))) (ss1 (aaG (eOp abI (eOp abL (v_ 0) (eOp aaM (eOp acG eI (eOp asC eI eI)) eI)) (eOp asC eI eI)))) ssN)
   (ssC (aaH 3 (eOp abI (eIx xL (v_ 2) eI) eI) sc__law_moment.nd)
   (ssC (aaH 4 (eOp abI (eOp aaM (eD (al6 ZZ) hr (aC (v_ 3) aN)) (eIx xL (aaW (aC eI (aC eI (aC eI (aC (eIx xL (v_ 2) eI) aN))))) (eIx xL (v_ 2) eI))) (eIx xL (v_ 2) eI)) sc__law_moment.nd)
   (ss1 (aaG (eOp aaM (eOp acG eI (v_ 4)) (eIx xL (aaW (aC eI (aC eI (aC (eIx xL (v_ 2) eI) aN)))) (eIx xL (v_ 2) eI))))))))),?_⟩
 have e7:∀z∈([2401,4,366,3,3,1440,8]:List Int),0<z/\z<1073741824:=by decide
 refine⟨_,rfl,(zL 7),fun ls hls=>⟨c,ls,true,[2401,4,366,3,3,1440,8],rfl,SqL.of aaA,e7,(by decide),fun ds p H1 s0 hp hd=>?_⟩⟩
 have s1:=(aaB hls (.lst [V.int 2401,V.int 4,V.int 366,V.int 3,V.int 3,V.int 1440,V.int 8])).trans s0
 obtain⟨d0,d1,d2,d3,d4,d5,d6,rfl,⟨k0,k2,k3,k5⟩,k1,k4⟩:∃d0 d1 d2 d3 d4 d5 d6:Int,ds=[d0,d1,d2,d3,d4,d5,d6]/\((0<=d0/\d0<2401)/\(0<=d2/\d2<366)/\(0<=d3/\d3<3)/\0<=d5/\d5<1440)/\(0<=d1/\d1<4)/\0<=d4/\d4<3:=by cases hd with | cons g0 r=>cases r with | cons g1 r=>cases r with | cons g2 r=>cases r with | cons g3 r=>cases r with | cons g4 r=>cases r with | cons g5 r=>cases r with | cons g6 r=>cases r;exact⟨_,_,_,_,_,_,_,rfl,⟨g0,g2,g3,g5⟩,g1,g4⟩
 obtain⟨ee,hee,be⟩:=aqV (zs:=[0,59,365,d2]) (i:=d1) (lo:=0) (hi:=366) k1.1 k1.2 (fun z hz=>by simp only[aW,bS,or_false] at hz;omega)
 obtain⟨tt,htt,bt⟩:=aqV (zs:=[0,1439,d5]) (i:=d4) (lo:=0) (hi:=1439) k4.1 k4.2 (fun z hz=>by simp only[aW,bS,or_false] at hz;omega)
 have e59:(10:Int)^59=100000000000000000000000000000000000000000000000000000000000:=by decide +kernel
 have bA: -(10^59)<=c%(2*10^(58:Int).toNat+1)-10^(58:Int).toNat/\c%(2*10^(58:Int).toNat+1)-10^(58:Int).toNat<=10^59:=by
  rw[auS,e59]
  omega
 refine⟨_,rfl,_,rfl,?_⟩
 cases bm with
 |true=>
  refine aa5 (aa5 ⟨_,rfl,p,_,_,_,rfl,rfl,SqL.of (hp),rfl,rfl,_,rfl,ifI (fun _=>?a) (fun _=>?b)⟩)
  case a=>exact⟨_,rfl,_,_,rfl,rfl,⟨by decide,by decide,by decide⟩,_,_,rfl,rfl,.inl ⟨by decide,by decide⟩,_,_,rfl,rfl,_,_,rfl,rfl,(by rw[auS];show (0:Int)<_;decide),_,_,rfl,rfl,⟨by decide,by decide,by decide⟩,_,_,rfl,rfl,q _ _ bA s1⟩
  case b=>exact⟨_,rfl,p,_,_,_,rfl,rfl,SqL.of (hp),rfl,_,_,rfl,rfl,_,rfl,_,rfl,⟨by omega,by omega⟩,fun z bz=>⟨_,rfl,p,_,_,_,rfl,rfl,SqL.of (hp),rfl,(zL 4),fun l1 h1=>⟨_,rfl,p,_,_,_,rfl,rfl,SqL.of ((aaB h1 _) _ _ hp),rfl,l1,_,_,_,rfl,rfl,SqL.of aaA,hee,_,_,rfl,rfl,_,rfl,p,_,_,_,rfl,rfl,SqL.of ((aaB h1 _) _ _ hp),rfl,_,_,rfl,rfl,_,rfl,_,_,rfl,rfl,.inl ⟨by decide,by decide⟩,_,rfl,p,_,_,_,rfl,rfl,SqL.of ((aaB h1 _) _ _ hp),rfl,(zL 3),fun l2 h2=>⟨_,rfl,p,_,_,_,rfl,rfl,SqL.of ((aaB h2 _) _ _ ((aaB h1 _) _ _ hp)),rfl,l2,_,_,_,rfl,rfl,SqL.of aaA,htt,_,_,rfl,rfl,q _ _ (by rw[e59];omega) (s1.trans ((aaB h1 _).trans (aaB h2 _)))⟩⟩⟩⟩
 |false=>
  refine aa2 ⟨_,rfl,_,rfl,_,_,rfl,rfl,⟨by decide,by decide,by decide⟩,_,_,rfl,rfl,_,rfl,ifD (fun _=>aa2 ?a0) (fun _=>⟨_,rfl,p,_,_,_,rfl,rfl,SqL.of (hp),rfl,rfl,_,rfl,ifI (fun _=>?a) (fun _=>?b)⟩)⟩
  case a0=>exact⟨_,rfl,_,_,rfl,rfl,⟨by decide,by decide,by decide⟩,_,_,rfl,rfl,.inl ⟨by decide,by decide⟩,_,_,rfl,rfl,_,_,rfl,rfl,(by rw[auS];show (0:Int)<_;decide),_,_,rfl,rfl,⟨by decide,by decide,by decide⟩,_,_,rfl,rfl,q _ _ bA s1⟩
  case a=>exact⟨_,rfl,_,_,rfl,rfl,⟨by decide,by decide,by decide⟩,_,_,rfl,rfl,.inl ⟨by decide,by decide⟩,_,_,rfl,rfl,_,_,rfl,rfl,(by rw[auS];show (0:Int)<_;decide),_,_,rfl,rfl,⟨by decide,by decide,by decide⟩,_,_,rfl,rfl,q _ _ bA s1⟩
  case b=>exact⟨_,rfl,p,_,_,_,rfl,rfl,SqL.of (hp),rfl,_,_,rfl,rfl,_,rfl,_,rfl,⟨by omega,by omega⟩,fun z bz=>⟨_,rfl,p,_,_,_,rfl,rfl,SqL.of (hp),rfl,(zL 4),fun l1 h1=>⟨_,rfl,p,_,_,_,rfl,rfl,SqL.of ((aaB h1 _) _ _ hp),rfl,l1,_,_,_,rfl,rfl,SqL.of aaA,hee,_,_,rfl,rfl,_,rfl,p,_,_,_,rfl,rfl,SqL.of ((aaB h1 _) _ _ hp),rfl,_,_,rfl,rfl,_,rfl,_,_,rfl,rfl,.inl ⟨by decide,by decide⟩,_,rfl,p,_,_,_,rfl,rfl,SqL.of ((aaB h1 _) _ _ hp),rfl,(zL 3),fun l2 h2=>⟨_,rfl,p,_,_,_,rfl,rfl,SqL.of ((aaB h2 _) _ _ ((aaB h1 _) _ _ hp)),rfl,l2,_,_,_,rfl,rfl,SqL.of aaA,htt,_,_,rfl,rfl,q _ _ (by rw[e59];omega) (s1.trans ((aaB h1 _).trans (aaB h2 _)))⟩⟩⟩⟩
theorem amS:Df P w K mg base "is_stretch" 2 ["thing"] (amI K):=by
 refine ZZ.c4.dfs amG (fun vs H Q E h=>?_) (fun f cdv A outer s H vs Q E hr h=>?_)
 ·obtain⟨_,_,rfl,_⟩:=h
  rfl
 obtain⟨v,o,rfl,ho,q⟩:=h
 refine⟨_,(ssC (sIf (tW (wOr (tNo (tVa (eCB cIs ZZ.ae PyProof.Rows.boot_isinstance (aC (v_ 0) (aC (eTy ZZ.eu PyProof.Rows.boot_tuple) aN))))) (afJ (tCm oNe (eCB akK ZZ.ag PySem.boot_len (aC (v_ 0) aN)) eI)))) (ss1 (aaG eB)) ssN)
   (ssC (sIf (tNo (tW (al0 (tVa (eD (ab5 ZZ) hr (aC (eIx xT (v_ 0) eI) aN))) (al0 (tVa (eD (ab5 ZZ) hr (aC (eIx xT (v_ 0) eI) aN))) (ah9 (tVa (eCB cIs ZZ.ae PyProof.Rows.boot_isinstance (aC (eIx xT (v_ 0) eI) (aC (eTy ZZ.ad PyProof.Rows.boot_str) aN))))))))) (ss1 (aaG eB)) ssN)
   (ss1 (aaG (amW (ad5 oLe (eIx xT (v_ 0) eI) (eIx xT (v_ 0) eI)) (ai9 (ad5 oIn (eIx xT (v_ 0) eI) (eGl (v:=.ref a_WORDS) ZZ.et rfl)))))))),?_⟩
 cases ho with
 |kind k h n=>exact⟨_,rfl,v,.tuple,k,rfl,(by decide),h,_,rfl,av8 (by rw[n];rfl) (aa2 q)⟩
 |len t xs e h n=>
  subst e
  exact⟨_,rfl,.ref t,.tuple,.tuple,rfl,(by decide),.inr (.inl ⟨rfl,xs,SqT.of h⟩),_,rfl,ifF rfl ⟨_,rfl,t,_,rfl,.inr (SqT.of h),rfl,_,rfl,asQ (fun _=>q) (fun c=>absurd (by omega) n)⟩⟩
 |tri t x y z kx ky kz e h hx hy hz n=>
  subst e
  refine⟨_,rfl,.ref t,.tuple,.tuple,rfl,(by decide),.inr (.inl ⟨rfl,_,SqT.of h⟩),_,rfl,ifF rfl ⟨_,rfl,t,_,rfl,.inr (SqT.of h),rfl,_,rfl,asQ (fun c=>absurd rfl c) (fun _=>?_)⟩⟩
  refine⟨_,rfl,t,_,_,_,rfl,rfl,SqT.of h,rfl,x,kx,rfl,hx,_,rfl,?_⟩
  cases cx:kx.wh with
  |false=>exact aa5 (av8 rfl q)
  |true=>
   refine aa2 ⟨_,rfl,t,_,_,_,rfl,rfl,SqT.of h,rfl,y,ky,rfl,hy,_,rfl,?_⟩
   cases cy:ky.wh with
   |false=>exact aa5 (av8 rfl q)
   |true=>
    rw[cx,cy] at n
    have n:Kd.isa kz .str=false:=n
    refine aa2 ⟨_,rfl,t,_,_,_,rfl,rfl,SqT.of h,rfl,z,.str,kz,rfl,(by decide),hz,_,rfl,?_⟩
    rw[n]
    exact av8 rfl q
 |ord t a b w' e h n=>
  subst e
  refine⟨_,rfl,.ref t,.tuple,.tuple,rfl,(by decide),.inr (.inl ⟨rfl,_,SqT.of h⟩),_,rfl,ifF rfl ⟨_,rfl,t,_,rfl,.inr (SqT.of h),rfl,_,rfl,asQ (fun c=>absurd rfl c) (fun _=>?_)⟩⟩
  refine⟨_,rfl,t,_,_,_,rfl,rfl,SqT.of h,rfl,_,.int,rfl,rfl,_,rfl,aa2 ⟨_,rfl,t,_,_,_,rfl,rfl,SqT.of h,rfl,_,.int,rfl,rfl,_,rfl,aa2 ⟨_,rfl,t,_,_,_,rfl,rfl,SqT.of h,rfl,_,.str,.str,rfl,(by decide),rfl,_,rfl,ifF rfl ?_⟩⟩⟩
  refine⟨_,rfl,t,_,_,_,rfl,rfl,SqT.of h,rfl,_,rfl,t,_,_,_,rfl,rfl,SqT.of h,rfl,_,_,rfl,rfl,_,rfl,ifD (fun c=>?_) (fun c=>?_)⟩
  ·refine⟨_,rfl,t,_,_,_,rfl,rfl,SqT.of h,rfl,a_WORDS,_,rfl,.inr (ZZ.b0 _),rfl,rfl,?_⟩
   show Q (.bl (inV _ _)) H
   rw[aqI,dU (fun z=>by rcases n with n | n;(· omega);(· exact n z))]
   exact q
  ·exact q
 |piece t z e h o w'=>
  subst e
  refine⟨_,rfl,.ref t,.tuple,.tuple,rfl,(by decide),.inr (.inl ⟨rfl,_,SqT.of h⟩),_,rfl,ifF rfl ⟨_,rfl,t,_,rfl,.inr (SqT.of h),rfl,_,rfl,asQ (fun c=>absurd rfl c) (fun _=>?_)⟩⟩
  refine⟨_,rfl,t,_,_,_,rfl,rfl,SqT.of h,rfl,_,.int,rfl,rfl,_,rfl,aa2 ⟨_,rfl,t,_,_,_,rfl,rfl,SqT.of h,rfl,_,.int,rfl,rfl,_,rfl,aa2 ⟨_,rfl,t,_,_,_,rfl,rfl,SqT.of h,rfl,_,.str,.str,rfl,(by decide),rfl,_,rfl,ifF rfl ?_⟩⟩⟩
  refine⟨_,rfl,t,_,_,_,rfl,rfl,SqT.of h,rfl,_,rfl,t,_,_,_,rfl,rfl,SqT.of h,rfl,_,_,rfl,rfl,_,rfl,ifD (fun c=>?_) (fun c=>absurd o c)⟩
  refine⟨_,rfl,t,_,_,_,rfl,rfl,SqT.of h,rfl,a_WORDS,_,rfl,.inr (ZZ.b0 _),rfl,rfl,?_⟩
  show Q (.bl (inV _ _)) H
  rw[aqI,dQ w']
  exact q
theorem af5:Df P w K mg base "goes_end_to_end" 3 ["begin","end","paper"] (af8 K):=by
 refine ZZ.bn.dfs sc_goes_end_to_end (fun vs H Q E h=>?_) (fun f cdv A outer s H vs Q E hr h=>?_)
 ·obtain⟨_,_,_,_,_,rfl,_⟩:=h
  rfl
 obtain⟨b,e,l,us,os,rfl,hl,hP,q⟩:=h
 refine⟨_,(ssC (aaH 3 (v_ 0) sc_goes_end_to_end.nd)
   (ssC (aaH 4 (eSx []) sc_goes_end_to_end.nd)
   (ssC (ad6 (iL (v_ 2)) (gN 5 sc_goes_end_to_end.nd) (ssC (sIf (tW (wOr (tNo (tVa (eD (amS ZZ) hr (aC (v_ 5) aN)))) (wOr (tCm oNe (eIx xT (v_ 5) eI) (v_ 3)) (afJ (tCm oEq (eIx xT (v_ 5) eI) (v_ 4)))))) (ss1 (aaG eB)) ssN)
   (ssC (aaH 3 (eOp aaM (eIx xT (v_ 5) eI) eI) sc_goes_end_to_end.nd)
   (ss1 (aaH 4 (eIx xT (v_ 5) eI) sc_goes_end_to_end.nd)))) PassesOwn.never)
   (ss1 (aaG (ad5 oEq (v_ 3) (eOp aaM (v_ 1) eI))))))),?_⟩
 refine⟨_,rfl,?_⟩
 refine⟨_,rfl,l,rfl,⟨_,hl⟩,acR (K:=K) (a:=l) (xs:=us) (fun i σ H2=>∃(due:Int) (w':List Nat) (u5:Option V),σ=[some (.int b),some (.int e),some (.ref l),some (.int due),some (.str (Tx w')),u5]/\H2=H/\gee b [] e os=gee due w' e (os.drop i)) ⟨b,[],_,rfl,rfl,rfl⟩ (fun i σ H2 _ ⟨_,_,_,_,z,_⟩=>z▸hl) ?turn ?done⟩
 case turn=>
  rintro i x σ H2 hx ⟨due,w',u5,rfl,rfl,hg⟩
  obtain⟨o,ho,hth⟩:=ae2 hP hx
  have hdr:os.drop i=o::os.drop (i+1):=by
   have hi:=(cT.mp ho).1
   rw[List.drop_eq_getElem_cons hi,(cT.mp ho).2]
  rw[hdr] at hg
  refine⟨_,rfl,x,o,rfl,hth,_,rfl,?_⟩
  cases o with
  |none=>
   refine av8 rfl (aa2 ?_)
   rw[hg] at q
   exact q
  |some z=>
   refine ifF rfl ?_
   cases hth with
   |piece t _ et h1 o1 w1=>
    subst et
    have hg:gee b [] e os=if z.1=due/\¬z.2.2=w' then gee (z.2.1+1) z.2.2 e (os.drop (i+1)) else false:=hg
    refine⟨_,rfl,t,_,_,_,rfl,rfl,SqT.of h1,rfl,_,rfl,rfl,_,rfl,asQ (fun c=>aa2 ?_) (fun c=>?_)⟩
    ·rw[if_neg (fun y=>c y.1)] at hg
     rw[hg] at q
     exact q
    refine⟨_,rfl,t,_,_,_,rfl,rfl,SqT.of h1,rfl,_,rfl,rfl,_,rfl,ifX (fun c2=>?_) (fun c2=>?_)⟩
    ·rw[if_neg (fun y=>y.2 c2)] at hg
     rw[hg] at q
     exact q
    rw[if_pos ⟨c,c2⟩] at hg
    refine⟨_,rfl,t,_,_,_,rfl,rfl,SqT.of h1,rfl,_,_,rfl,rfl,_,rfl,t,_,_,_,rfl,rfl,SqT.of h1,rfl,?_⟩
    exact⟨_,_,_,rfl,rfl,hg⟩
 case done=>
  rintro σ H2 ⟨due,w',u5,rfl,rfl,hg⟩
  rw[adQ hP,List.drop_length] at hg
  have hg:gee b [] e os=decide (due=e+1):=hg
  refine⟨_,rfl,_,rfl,_,_,rfl,rfl,rfl,?_⟩
  have eq_:decide (V.int due=V.int (e+1))=decide (due=e+1):=decide_eq_decide.mpr int_eq
  show Q (.bl (decide (V.int due=V.int (e+1)))) H2
  rw[eq_,←hg]
  exact q
theorem akA:Df P w K mg base "field_shuts" 7 ["row","moment","word"] (ajV K aD aF aG aI aE aB aH aJ aA):=by
 refine ZZ.co.dfs sc_field_shuts (fun vs H Q E h=>?_) (fun f cdv A outer s H vs Q E hr h=>?_)
 ·obtain⟨_,_,_,_,_,_,_,rfl,_⟩:=h
  rfl
 obtain⟨p,mo,m0,m1,m3,kd,kw,rfl,hR,hb,q⟩:=h
 refine⟨_,(ssC (aaH 3 (eD (anR ZZ) hr (aC (v_ 1) aN)) sc_field_shuts.nd)
   (ssC (sIf (tCm oEq (v_ 2) (eSx [104,111,117,114])) (ss1 (aaG (ax0 (eD (acN ZZ) hr (aC (aDY ZZ.aa.cl (ao1 ZZ) hr (v_ 0)) (aC (eIx xT (v_ 3) eI) aN)))))) ssN)
   (ssC (sIf (tCm oEq (v_ 2) (eSx [109,105,110,117,116,101])) (ss1 (aaG (ax0 (eD (acN ZZ) hr (aC (aDY ZZ.aa.cl (aj9 ZZ) hr (v_ 0)) (aC (eIx xT (v_ 3) eI) aN)))))) ssN)
   (ssC (aaH 4 (eD (adG ZZ) hr (aC (eIx xT (v_ 3) eI) aN)) sc_field_shuts.nd)
   (ssC (aaH 5 (eD (acN ZZ) hr (aC (aDY ZZ.aa.cl (al9 ZZ) hr (v_ 0)) (aC (eIx xT (v_ 4) eI) aN))) sc_field_shuts.nd)
   (ssC (sIf (tCm oEq (v_ 2) (eSx [109,111,110,116,104])) (ss1 (aaG (ax0 (v_ 5)))) ssN)
   (ss1 (aaG (amW (v_ 5) (ai9 (ax0 (eD (acN ZZ) hr (aC (eMe ZZ.aa.cl (abY ZZ) hr (v_ 0) (aC (eD (adP ZZ) hr (aC (eIx xT (v_ 4) eI) (aC (eIx xT (v_ 4) eI) aN))) aN)) (aC (eIx xT (v_ 4) eI) aN)))))))))))))),?_⟩
 obtain⟨dx,dv,wv,hp,hn,_,hd,hw⟩:=hR
 refine⟨_,rfl,mo,rfl,fun t H1 s1 h1=>?_⟩
 refine⟨_,rfl,rfl,_,rfl,ifXt ?_⟩
 refine⟨_,rfl,p,dx,_,rfl,s1 _ _ hp,amC ..,p,dx,m0,m1,m3,tmF m1 m0,dv,wv,rfl,s1 _ _ hp,_,rfl,t,_,_,_,rfl,rfl,SqT.of h1,rfl,m1,_,rfl,⟨hn.2.1,by omega⟩,_,rfl,?_⟩
 show Q (.bl (!tb m1 (mo%1440 / 60).toNat)) H1
 rw[hb]
 exact q H1 s1
theorem atN:Df P w K mg base "is_shut" 9 ["row","first","last","word"] (as5 K aD aF aG aI aE aB aH aJ aA):=by
 refine ZZ.em.dfs sc_is_shut (fun vs H Q E h=>?_) (fun f cdv A outer s H vs Q E hr h=>?_)
 ·obtain⟨_,_,_,_,_,_,_,_,_,rfl,_⟩:=h
  rfl
 obtain⟨p,a,b,m0,m1,m3,w',kd,kw,rfl,hR,hc⟩:=h
 refine⟨_,(ssC (sIf (tCm oGe (eOp abI (v_ 2) (v_ 1)) (eOp acG (eGl (v:=.int 1440) ZZ.ac ⟨_,rfl⟩) (eGl (v:=.int 400) ZZ.c9 ⟨_,rfl⟩))) (ss1 (aaG eB)) ssN)
   (ssC (aaH 4 (v_ 1) sc_is_shut.nd)
   (ssC (sWh (tCm oLe (v_ 4) (v_ 2)) (ssC (sIf (tNo (tVa (eD (akA ZZ) hr (aC (v_ 0) (aC (v_ 4) (aC (v_ 3) aN)))))) (ss1 (aaG eB)) ssN)
   (ss1 (aaH 4 (eOp aaM (eD (aiM ZZ) hr (aC (v_ 0) (aC (v_ 4) (aC (v_ 3) aN)))) eI) sc_is_shut.nd))) PassesOwn.never)
   (ss1 (aaG eB))))),?_⟩
 refine⟨_,rfl,_,rfl,_,_,rfl,rfl,_,_,rfl,rfl,.inl ⟨by decide,by decide⟩,_,_,rfl,rfl,_,rfl,?_⟩
 rcases hc with ⟨c,q⟩ | ⟨c,rfl,hh,q⟩
 ·exact ifD (fun _=>q H (Same.refl _)) (fun z=>absurd (by omega) z)
 refine ifD (fun z=>absurd z (by omega)) (fun _=>⟨_,rfl,?_⟩)
 refine ae9 (fun σ H2=>∃mo:Int,σ=[some (.ref p),some (.int a),some (.int b),some (.str (Tx [104,111,117,114])),some (.int mo)]/\Same H H2/\a<=mo) (fun σ _=>match σ[4]? with | some (some (V.int mo))=>(b+1-mo).toNat | _=>0) ⟨a,rfl,Same.refl _,aV _⟩ ?_
 rintro σ H2 ⟨mo,rfl,s2,ha⟩
 refine⟨_,rfl,_,rfl,_,_,rfl,rfl,_,rfl,ifD (fun c1=>?_) (fun c1=>?_)⟩
 ·refine⟨_,fun _ _ h=>h,?_⟩
  have hR2:=RowR.keepN (abB s2) hR
  refine⟨_,rfl,_,rfl,_,rfl,p,mo,m0,m1,m3,kd,kw,rfl,hR2,hh mo ha c1,fun H3 s3=>⟨_,rfl,ifF rfl ?_⟩⟩
  have hR3:=RowR.keepN (abB s3) hR2
  obtain⟨dx,dv,wv,hp,hn,_,hd,hw⟩:=hR3
  refine⟨_,rfl,_,rfl,_,rfl,p,dx,[104,111,117,114],m0,m1,m3,tmF m1 m0,mo,dv,wv,kd,kw,rfl,hp,hn,hd,hw,.inr (.inl ⟨rfl,hh mo ha c1⟩),fun r H4 hr1 hr2 hr3 s4=>⟨_,_,rfl,rfl,?_⟩⟩
  exact⟨_,(by show (b+1-(r+1)).toNat<(b+1-mo).toNat;omega),rfl,r+1,rfl,s2.trans (s3.trans s4),by omega⟩
 ·exact q H2 s2
theorem aeM:Df P w K mg base "shuts" 10 ["row","begin","end","paper"] (ax2 K aD aF aG aI aE aB aH aJ aA):=by
 refine ZZ.ev.dfs axC (fun vs H Q E h=>?_) (fun f cdv A outer s H vs Q E hr h=>?_)
 ·obtain⟨_,_,_,_,_,_,_,_,_,_,_,rfl,_⟩:=h
  rfl
 obtain⟨p,l,b,e,m0,m1,m3,kd,kw,us,os,rfl,hR,hl,hP,hc⟩:=h
 refine⟨_,(ssC (sIf (tCm oLt (v_ 2) (v_ 1)) (ss1 (aaG (ad5 oEq (eCB akK ZZ.ag PySem.boot_len (aC (v_ 3) aN)) eI))) ssN)
   (ssC (sIf (tNo (tVa (eD (af5 ZZ) hr (aC (v_ 1) (aC (v_ 2) (aC (v_ 3) aN)))))) (ss1 (aaG eB)) ssN)
   (ss1 (aaG (eCB aHK ZZ.dv boot_all (aC (ax6 ["first","last","word"] ["row"] [0] (iL (v_ 3)) (fun _ _ _ _ _ _=>aO6 (K:=K) (n:=3) (gsC (gN 0 (show ((["first","last","word"]:List Str)++(["row"]:List Str)).Nodup by decide +kernel)) (gsC (gN 1 (show ((["first","last","word"]:List Str)++(["row"]:List Str)).Nodup by decide +kernel)) (gsC (gN 2 (show ((["first","last","word"]:List Str)++(["row"]:List Str)).Nodup by decide +kernel)) gsN)))) (fun _ _ _ _ _ _=>fsN) (fun _ _ _ _ _ _=>(eD (atN ZZ) hr (aC (v_ 3) (aC (v_ 0) (aC (v_ 1) (aC (v_ 2) aN))))))) aN)))))),?_⟩
 refine⟨_,rfl,_,rfl,_,_,rfl,rfl,_,rfl,?_⟩
 rcases hc with ⟨c,q⟩ | ⟨c,g,q⟩ | ⟨c,z,rfl,g,hz⟩
 ·refine ifD (fun _=>⟨_,rfl,l,_,rfl,.inl hl,rfl,?_⟩) (fun w'=>absurd c w')
  have e1:decide (V.int ((us.length:Nat):Int)=V.int 0)=decide (us.length=0):=decide_eq_decide.mpr (by rw[int_eq];omega)
  show Q (.bl (decide (V.int ((us.length:Nat):Int)=V.int 0))) H
  rw[e1]
  exact q H (Same.refl _)
 ·refine ifD (fun w'=>absurd w' (by omega)) (fun _=>⟨_,rfl,_,rfl,_,rfl,b,e,l,us,os,rfl,hl,hP,_,rfl,?_⟩)
  rw[g]
  exact av8 rfl (q H (Same.refl _))
 ·refine ifD (fun w'=>absurd w' (by omega)) (fun _=>⟨_,rfl,_,rfl,_,rfl,b,e,l,us,_,rfl,hl,hP,_,rfl,?_⟩)
  rw[g]
  refine ifF rfl ?_
  obtain⟨v,rfl⟩:∃v,us=[v]:=by
   cases hP with
   |cons _ t=>cases t;exact⟨_,rfl⟩
  obtain⟨t,rfl,ht⟩:∃t:Addr,v=.ref t/\H t=some (.tup [.int z.1,.int z.2.1,.str (Tx z.2.2)]):=by
   cases hP with
   |cons h _=>cases h with
    |piece t _ e h _ _=>exact⟨t,e,h⟩
  obtain⟨bz,hbz⟩:∃bz:Bool,(576000<=z.2.1-z.1/\bz=false)∨(z.2.1-z.1<576000/\z.2.2=[104,111,117,114]/\(∀t,z.1<=t->t<=z.2.1->tb m1 (t%1440 / 60).toNat=false)/\bz=true):=by
   rcases hz with ⟨h1,_⟩ | ⟨h1,h2,h3,_⟩
   ·exact⟨false,.inl ⟨h1,rfl⟩⟩
   ·exact⟨true,.inr ⟨h1,h2,h3,rfl⟩⟩
  refine⟨_,rfl,l,rfl,⟨_,hl⟩,arT (xs:=[.ref t]) (fun i w' Hx=>w'=([bz].take i).map V.bl) (fun _ _ _ _ _ h=>h) (zL 1) rfl hl ?_ ?_⟩
  ·intro i v w' D H4 E' F' hv hR4 hD s4 hz4 hE hF
   subst hR4
   match i,hv with
   |0,hv=>
    cases hv
    refine⟨t,_,_,_,rfl,SqT.of (s4 _ _ ht),?_⟩
    refine⟨_,rfl,_,rfl,_,rfl,_,rfl,p,z.1,z.2.1,m0,m1,m3,z.2.2,kd,kw,rfl,RowR.keepN (abB s4) hR,?_⟩
    rcases hbz with ⟨h1,rfl⟩ | ⟨h1,h2,h3,rfl⟩
    ·exact .inl ⟨h1,fun H' s'=>hE _ _ s' rfl⟩
    ·exact .inr ⟨h1,h2,h3,fun H' s'=>hE _ _ s' rfl⟩
  ·intro D H4 w' hR4 hD s4 hz4
   subst hR4
   refine⟨D,[bz],rfl,SqL.of hz4,?_⟩
   show Q (.bl ([bz].all id)) H4
   rw[show [bz].all id=bz by simp]
   rcases hz with ⟨h1,q⟩ | ⟨h1,h2,h3,q⟩
   ·rcases hbz with ⟨_,rfl⟩ | ⟨h4,_⟩
    ·exact q H4 s4
    ·omega
   ·rcases hbz with ⟨h4,_⟩ | ⟨_,_,_,rfl⟩
    ·omega
    ·exact q H4 s4
theorem aq5:Df P w K mg base "_law_odd" 1 ["_law_first","_law_last","_law_word","_law_way"] (aqY K):=by
 refine ZZ.ea.dfs sc__law_odd (fun vs H Q E h=>?_) (fun f cdv A outer s H vs Q E hr h=>?_)
 ·obtain⟨_,_,_,_,rfl,_⟩:=h
  rfl
 obtain⟨f,l,way,w',rfl,hw,hy,hf,q⟩:=h
 refine⟨_,(ssK (aaH 4 (aaW (aC eN (aC eI (aC eB (aC (eSx [109,111,110,116,104]) (aC (aaQ (aC (v_ 0) (aC (v_ 1) aN))) (aC (aaQ (aC (v_ 0) (aC (v_ 1) (aC (v_ 2) (aC eI aN))))) (aC (aaW (aC (v_ 0) (aC (v_ 1) (aC (v_ 2) aN)))) (aC eDi (aC (aaQ aN) aN)))))))))) sc__law_odd.nd)
   (ssK (aaH 4 (eOp ag2 (v_ 4) (aaW (aC (aaQ (aC (v_ 0) (aC eB (aC (v_ 2) aN)))) (aC (aaQ (aC eB (aC (v_ 1) (aC (v_ 2) aN)))) (aC (aaQ (aC (v_ 0) (aC (v_ 1) (aC eN aN)))) (aC (aaQ (aC (v_ 0) (aC (v_ 1) (aC (eUpp (v_ 2)) aN)))) aN)))))) sc__law_odd.nd)
   (ssK (aaH 4 (eOp ag2 (v_ 4) (aaW (aC (aaQ (aC (eCT aH7 ZZ.ad PyProof.Rows.boot_str (aC (v_ 0) aN)) (aC (v_ 1) (aC (v_ 2) aN)))) (aC (aaQ (aC (v_ 0) (aC eN (aC (v_ 2) aN)))) (aC (aaQ (aC (eOp aaM (v_ 1) eI) (aC (v_ 1) (aC (v_ 2) aN)))) (aC (aaQ (aC (v_ 0) (aC (eOp abI (v_ 0) eI) (aC (v_ 2) aN)))) aN)))))) sc__law_odd.nd)
   (ssK (aaH 4 (eOp ag2 (v_ 4) (aaW (aC (aaQ (aC (v_ 0) (aC (v_ 1) (aC (eSx []) aN)))) (aC (aaQ (aC (v_ 0) (aC (v_ 1) (aC (aaW (aC (v_ 2) aN)) aN)))) (aC (aaQ (aC (v_ 0) (aC (aaQ (aC (v_ 1) (aC (v_ 1) aN))) (aC (v_ 2) aN)))) (aC (aaQ (aC (v_ 0) (aC (v_ 1) (aC eI aN)))) aN)))))) sc__law_odd.nd)
   (ss1 (aaG (eIx xL (v_ 4) (v_ 3)))))))),?_⟩
 obtain⟨W,eW,nW,hW⟩:=aF9 hw
 refine⟨aBN K f l way w' H 9,?_,?_⟩
 ·refine⟨_,rfl,_,rfl,(zL 2),fun t1 nn1=>?_⟩
  have r1:=aaB nn1 (.tup [.int f,.int l])
  have G1:upd H t1 (.tup [.int f,.int l]) t1=some (.tup [.int f,.int l]):=aaA
  generalize upd H t1 (.tup [.int f,.int l])=E1 at r1 G1 ⊢
  refine⟨_,rfl,_,rfl,_,rfl,(zL 4),fun t2 nn2=>?_⟩
  have r2:=aaB nn2 (.tup [.int f,.int l,.str (Tx w'),.int 0])
  have G2:upd E1 t2 (.tup [.int f,.int l,.str (Tx w'),.int 0]) t2=some (.tup [.int f,.int l,.str (Tx w'),.int 0]):=aaA
  generalize upd E1 t2 (.tup [.int f,.int l,.str (Tx w'),.int 0])=E2 at r2 G2 ⊢
  refine⟨_,rfl,_,rfl,_,rfl,(zL 3),fun t3 nn3=>?_⟩
  have r3:=aaB nn3 (.lst [.int f,.int l,.str (Tx w')])
  have G3:upd E2 t3 (.lst [.int f,.int l,.str (Tx w')]) t3=some (.lst [.int f,.int l,.str (Tx w')]):=aaA
  generalize upd E2 t3 (.lst [.int f,.int l,.str (Tx w')])=E3 at r3 G3 ⊢
  refine fun t4 nn4=>?_
  have r4:=aaB nn4 (.dK [])
  have G4:upd E3 t4 (.dK []) t4=some (.dK []):=aaA
  generalize upd E3 t4 (.dK [])=E4 at r4 G4 ⊢
  refine⟨(zL 0),fun t5 nn5=>?_⟩
  have r5:=aaB nn5 (.tup [])
  have G5:upd E4 t5 (.tup []) t5=some (.tup []):=aaA
  generalize upd E4 t5 (.tup [])=E5 at r5 G5 ⊢
  refine⟨(zL 9),fun Y nn6=>?_⟩
  have r6:=aaB nn6 (.lst [.non,.int 5,.bl true,.str (Tx [109,111,110,116,104]),.ref t1,.ref t2,.ref t3,.ref t4,.ref t5])
  have G6:upd E5 Y (.lst [.non,.int 5,.bl true,.str (Tx [109,111,110,116,104]),.ref t1,.ref t2,.ref t3,.ref t4,.ref t5]) Y=some (.lst [.non,.int 5,.bl true,.str (Tx [109,111,110,116,104]),.ref t1,.ref t2,.ref t3,.ref t4,.ref t5]):=aaA
  generalize upd E5 Y (.lst [.non,.int 5,.bl true,.str (Tx [109,111,110,116,104]),.ref t1,.ref t2,.ref t3,.ref t4,.ref t5])=E6 at r6 G6 ⊢
  have f6:=r6
  have f5:=r5.trans f6
  have f4:=r4.trans f5
  have f3:=r3.trans f4
  have f2:=r2.trans f3
  have f1:=r1.trans f2
  refine⟨Y,_,rfl,f1,G6,rfl,fun v hv=>?_⟩
  simp only[aW,bS,or_false] at hv
  rcases hv with rfl | rfl | rfl | rfl | rfl | rfl | rfl | rfl | rfl
  ·exact⟨.kind .non rfl rfl,rfl⟩
  ·exact⟨.kind .int rfl rfl,rfl⟩
  ·exact⟨.kind .bool rfl rfl,rfl⟩
  ·exact⟨.kind .str rfl rfl,rfl⟩
  ·exact⟨.len t1 _ rfl (f2 _ _ G1) (fun z=>nomatch z),rfl⟩
  ·exact⟨.len t2 _ rfl (f3 _ _ G2) (fun z=>nomatch z),rfl⟩
  ·exact⟨.kind .list (.inl ⟨rfl,_,SqL.of (f4 _ _ G3)⟩) rfl,rfl⟩
  ·exact⟨.kind .dict (.inr (.inr ⟨rfl,_,f5 _ _ G4⟩)) rfl,rfl⟩
  ·exact⟨.len t5 _ rfl (f6 _ _ G5) (fun z=>nomatch z),rfl⟩
 rintro σ' HB ⟨M,xs,rfl,sB,hM,hx,hall⟩
 refine⟨aBN K f l way w' H 13,?_,?_⟩
 ·refine⟨_,rfl,_,rfl,_,rfl,(zL 3),fun t1 nn1=>?_⟩
  have r1:=aaB nn1 (.tup [.int f,.bl true,.str (Tx w')])
  have G1:upd HB t1 (.tup [.int f,.bl true,.str (Tx w')]) t1=some (.tup [.int f,.bl true,.str (Tx w')]):=aaA
  generalize upd HB t1 (.tup [.int f,.bl true,.str (Tx w')])=E1 at r1 G1 ⊢
  refine⟨_,rfl,_,rfl,(zL 3),fun t2 nn2=>?_⟩
  have r2:=aaB nn2 (.tup [.bl true,.int l,.str (Tx w')])
  have G2:upd E1 t2 (.tup [.bl true,.int l,.str (Tx w')]) t2=some (.tup [.bl true,.int l,.str (Tx w')]):=aaA
  generalize upd E1 t2 (.tup [.bl true,.int l,.str (Tx w')])=E2 at r2 G2 ⊢
  refine⟨_,rfl,_,rfl,(zL 3),fun t3 nn3=>?_⟩
  have r3:=aaB nn3 (.tup [.int f,.int l,.non])
  have G3:upd E2 t3 (.tup [.int f,.int l,.non]) t3=some (.tup [.int f,.int l,.non]):=aaA
  generalize upd E2 t3 (.tup [.int f,.int l,.non])=E3 at r3 G3 ⊢
  refine⟨_,rfl,_,rfl,_,rfl,rfl,_,_,rfl,rfl,eW,hW,(zL 3),fun t4 nn4=>?_⟩
  have r4:=aaB nn4 (.tup [.int f,.int l,.str (Tx W)])
  have G4:upd E3 t4 (.tup [.int f,.int l,.str (Tx W)]) t4=some (.tup [.int f,.int l,.str (Tx W)]):=aaA
  generalize upd E3 t4 (.tup [.int f,.int l,.str (Tx W)])=E4 at r4 G4 ⊢
  refine⟨(zL 4),fun Y nn5=>?_⟩
  have r5:=aaB nn5 (.lst [.ref t1,.ref t2,.ref t3,.ref t4])
  have G5:upd E4 Y (.lst [.ref t1,.ref t2,.ref t3,.ref t4]) Y=some (.lst [.ref t1,.ref t2,.ref t3,.ref t4]):=aaA
  generalize upd E4 Y (.lst [.ref t1,.ref t2,.ref t3,.ref t4])=E5 at r5 G5 ⊢
  refine⟨M,Y,xs,_,rfl,rfl,SqL.of (r5 _ _ (r4 _ _ (r3 _ _ (r2 _ _ (r1 _ _ (hM)))))),SqL.of G5,(by rw[dN,hx];show 9+4<=_;omega),fun Y' nn6=>?_⟩
  have r6:=aaB nn6 (.lst (xs++[.ref t1,.ref t2,.ref t3,.ref t4]))
  have f6:=r6
  have f5:=r5.trans f6
  have f4:=r4.trans f5
  have f3:=r3.trans f4
  have f2:=r2.trans f3
  have f1:=r1.trans f2
  refine⟨Y',_,rfl,sB.trans f1,aaA,(by rw[aU,hx];rfl),fun v hv=>?_⟩
  rcases bH.mp hv with hv | hv
  ·exact⟨(hall v hv).1.keep f1,(hall v hv).2⟩
  simp only[aW,bS,or_false] at hv
  rcases hv with rfl | rfl | rfl | rfl
  ·exact⟨.tri t1 _ _ _ .int .bool .str rfl (f2 _ _ G1) rfl rfl rfl rfl,rfl⟩
  ·exact⟨.tri t2 _ _ _ .bool .int .str rfl (f3 _ _ G2) rfl rfl rfl rfl,rfl⟩
  ·exact⟨.tri t3 _ _ _ .int .int .non rfl (f4 _ _ G3) rfl rfl rfl rfl,rfl⟩
  ·exact⟨.ord t4 f l W rfl (f5 _ _ G4) (.inr nW),rfl⟩
 rintro σ' HB ⟨M,xs,rfl,sB,hM,hx,hall⟩
 refine⟨aBN K f l way w' H 17,?_,?_⟩
 ·refine⟨_,rfl,_,rfl,f,rfl,hf,_,rfl,_,rfl,(zL 3),fun t1 nn1=>?_⟩
  have r1:=aaB nn1 (.tup [.str (Tx (aw1 f)),.int l,.str (Tx w')])
  have G1:upd HB t1 (.tup [.str (Tx (aw1 f)),.int l,.str (Tx w')]) t1=some (.tup [.str (Tx (aw1 f)),.int l,.str (Tx w')]):=aaA
  generalize upd HB t1 (.tup [.str (Tx (aw1 f)),.int l,.str (Tx w')])=E1 at r1 G1 ⊢
  refine⟨_,rfl,_,rfl,(zL 3),fun t2 nn2=>?_⟩
  have r2:=aaB nn2 (.tup [.int f,.non,.str (Tx w')])
  have G2:upd E1 t2 (.tup [.int f,.non,.str (Tx w')]) t2=some (.tup [.int f,.non,.str (Tx w')]):=aaA
  generalize upd E1 t2 (.tup [.int f,.non,.str (Tx w')])=E2 at r2 G2 ⊢
  refine⟨_,rfl,_,_,rfl,rfl,_,rfl,_,rfl,(zL 3),fun t3 nn3=>?_⟩
  have r3:=aaB nn3 (.tup [.int (l+1),.int l,.str (Tx w')])
  have G3:upd E2 t3 (.tup [.int (l+1),.int l,.str (Tx w')]) t3=some (.tup [.int (l+1),.int l,.str (Tx w')]):=aaA
  generalize upd E2 t3 (.tup [.int (l+1),.int l,.str (Tx w')])=E3 at r3 G3 ⊢
  refine⟨_,rfl,_,rfl,_,_,rfl,rfl,_,rfl,(zL 3),fun t4 nn4=>?_⟩
  have r4:=aaB nn4 (.tup [.int f,.int (f-1),.str (Tx w')])
  have G4:upd E3 t4 (.tup [.int f,.int (f-1),.str (Tx w')]) t4=some (.tup [.int f,.int (f-1),.str (Tx w')]):=aaA
  generalize upd E3 t4 (.tup [.int f,.int (f-1),.str (Tx w')])=E4 at r4 G4 ⊢
  refine⟨(zL 4),fun Y nn5=>?_⟩
  have r5:=aaB nn5 (.lst [.ref t1,.ref t2,.ref t3,.ref t4])
  have G5:upd E4 Y (.lst [.ref t1,.ref t2,.ref t3,.ref t4]) Y=some (.lst [.ref t1,.ref t2,.ref t3,.ref t4]):=aaA
  generalize upd E4 Y (.lst [.ref t1,.ref t2,.ref t3,.ref t4])=E5 at r5 G5 ⊢
  refine⟨M,Y,xs,_,rfl,rfl,SqL.of (r5 _ _ (r4 _ _ (r3 _ _ (r2 _ _ (r1 _ _ (hM)))))),SqL.of G5,(by rw[dN,hx];show 13+4<=_;omega),fun Y' nn6=>?_⟩
  have r6:=aaB nn6 (.lst (xs++[.ref t1,.ref t2,.ref t3,.ref t4]))
  have f6:=r6
  have f5:=r5.trans f6
  have f4:=r4.trans f5
  have f3:=r3.trans f4
  have f2:=r2.trans f3
  have f1:=r1.trans f2
  refine⟨Y',_,rfl,sB.trans f1,aaA,(by rw[aU,hx];rfl),fun v hv=>?_⟩
  rcases bH.mp hv with hv | hv
  ·exact⟨(hall v hv).1.keep f1,(hall v hv).2⟩
  simp only[aW,bS,or_false] at hv
  rcases hv with rfl | rfl | rfl | rfl
  ·exact⟨.tri t1 _ _ _ .str .int .str rfl (f2 _ _ G1) rfl rfl rfl rfl,rfl⟩
  ·exact⟨.tri t2 _ _ _ .int .non .str rfl (f3 _ _ G2) rfl rfl rfl rfl,rfl⟩
  ·exact⟨.ord t3 (l+1) l w' rfl (f4 _ _ G3) (.inl (by omega)),rfl⟩
  ·exact⟨.ord t4 f (f-1) w' rfl (f5 _ _ G4) (.inl (by omega)),rfl⟩
 rintro σ' HB ⟨M,xs,rfl,sB,hM,hx,hall⟩
 refine⟨aBN K f l way w' H 21,?_,?_⟩
 ·refine⟨_,rfl,_,rfl,_,rfl,(zL 3),fun t1 nn1=>?_⟩
  have r1:=aaB nn1 (.tup [.int f,.int l,.str (Tx [])])
  have G1:upd HB t1 (.tup [.int f,.int l,.str (Tx [])]) t1=some (.tup [.int f,.int l,.str (Tx [])]):=aaA
  generalize upd HB t1 (.tup [.int f,.int l,.str (Tx [])])=E1 at r1 G1 ⊢
  refine⟨_,rfl,_,rfl,_,rfl,(zL 1),fun l2 nn2=>?_⟩
  have r2:=aaB nn2 (.lst [.str (Tx w')])
  have G2:upd E1 l2 (.lst [.str (Tx w')]) l2=some (.lst [.str (Tx w')]):=aaA
  generalize upd E1 l2 (.lst [.str (Tx w')])=E2 at r2 G2 ⊢
  refine⟨(zL 3),fun t2 nn3=>?_⟩
  have r3:=aaB nn3 (.tup [.int f,.int l,.ref l2])
  have G3:upd E2 t2 (.tup [.int f,.int l,.ref l2]) t2=some (.tup [.int f,.int l,.ref l2]):=aaA
  generalize upd E2 t2 (.tup [.int f,.int l,.ref l2])=E3 at r3 G3 ⊢
  refine⟨_,rfl,_,rfl,_,rfl,(zL 2),fun l3 nn4=>?_⟩
  have r4:=aaB nn4 (.tup [.int l,.int l])
  have G4:upd E3 l3 (.tup [.int l,.int l]) l3=some (.tup [.int l,.int l]):=aaA
  generalize upd E3 l3 (.tup [.int l,.int l])=E4 at r4 G4 ⊢
  refine⟨_,rfl,(zL 3),fun t3 nn5=>?_⟩
  have r5:=aaB nn5 (.tup [.int f,.ref l3,.str (Tx w')])
  have G5:upd E4 t3 (.tup [.int f,.ref l3,.str (Tx w')]) t3=some (.tup [.int f,.ref l3,.str (Tx w')]):=aaA
  generalize upd E4 t3 (.tup [.int f,.ref l3,.str (Tx w')])=E5 at r5 G5 ⊢
  refine⟨_,rfl,_,rfl,(zL 3),fun t4 nn6=>?_⟩
  have r6:=aaB nn6 (.tup [.int f,.int l,.int 0])
  have G6:upd E5 t4 (.tup [.int f,.int l,.int 0]) t4=some (.tup [.int f,.int l,.int 0]):=aaA
  generalize upd E5 t4 (.tup [.int f,.int l,.int 0])=E6 at r6 G6 ⊢
  refine⟨(zL 4),fun Y nn7=>?_⟩
  have r7:=aaB nn7 (.lst [.ref t1,.ref t2,.ref t3,.ref t4])
  have G7:upd E6 Y (.lst [.ref t1,.ref t2,.ref t3,.ref t4]) Y=some (.lst [.ref t1,.ref t2,.ref t3,.ref t4]):=aaA
  generalize upd E6 Y (.lst [.ref t1,.ref t2,.ref t3,.ref t4])=E7 at r7 G7 ⊢
  refine⟨M,Y,xs,_,rfl,rfl,SqL.of (r7 _ _ (r6 _ _ (r5 _ _ (r4 _ _ (r3 _ _ (r2 _ _ (r1 _ _ (hM)))))))),SqL.of G7,(by rw[dN,hx];show 17+4<=_;omega),fun Y' nn8=>?_⟩
  have r8:=aaB nn8 (.lst (xs++[.ref t1,.ref t2,.ref t3,.ref t4]))
  have f8:=r8
  have f7:=r7.trans f8
  have f6:=r6.trans f7
  have f5:=r5.trans f6
  have f4:=r4.trans f5
  have f3:=r3.trans f4
  have f2:=r2.trans f3
  have f1:=r1.trans f2
  refine⟨Y',_,rfl,sB.trans f1,aaA,(by rw[aU,hx];rfl),fun v hv=>?_⟩
  rcases bH.mp hv with hv | hv
  ·exact⟨(hall v hv).1.keep f1,(hall v hv).2⟩
  simp only[aW,bS,or_false] at hv
  rcases hv with rfl | rfl | rfl | rfl
  ·exact⟨.ord t1 f l [] rfl (f2 _ _ G1) (.inr (by decide)),rfl⟩
  ·exact⟨.tri t2 _ _ _ .int .int .list rfl (f4 _ _ G3) rfl rfl (.inl ⟨rfl,_,SqL.of (f3 _ _ G2)⟩) rfl,rfl⟩
  ·exact⟨.tri t3 _ _ _ .int .tuple .str rfl (f6 _ _ G5) rfl (.inr (.inl ⟨rfl,_,SqT.of (f5 _ _ G4)⟩)) rfl rfl,rfl⟩
  ·exact⟨.tri t4 _ _ _ .int .int .int rfl (f7 _ _ G6) rfl rfl rfl rfl,rfl⟩
 rintro σ' HB ⟨M,xs,rfl,sB,hM,hx,hall⟩
 obtain⟨v,hv,hm⟩:=atF (xs:=xs) (i:=way) hy.1 (by rw[hx];exact hy.2)
 exact⟨_,rfl,_,rfl,M,_,_,v,rfl,rfl,SqL.of hM,hv,q v _ sB (hall v hm).1 (hall v hm).2⟩
theorem abJ:Df P w K mg base "_law_asked" 11 ["_law_row","_law_begin","_law_end","_law_paper","_law_due"] (amR K aD aF aG aI aE aB aH aJ aA):=by
 refine ZZ.c5.dfs sc__law_asked (fun vs H Q E h=>?_) (fun f cdv A outer s H vs Q E hr h=>?_)
 ·obtain⟨_,_,_,_,_,_,_,_,_,_,_,_,rfl,_⟩:=h
  rfl
 obtain⟨p,l,b,e,m0,m1,m3,kd,kw,us,os,due,rfl,hR,hl,hP,hok,hc,q⟩:=h
 refine⟨_,(ssC (aaH 5 (eCT cLst ZZ.an PyProof.Rows.boot_list (aC (v_ 3) aN)) sc__law_asked.nd)
   (ssC (aaH 6 (eD (aeM ZZ) hr (aC (v_ 0) (aC (v_ 1) (aC (v_ 2) (aC (v_ 5) aN))))) sc__law_asked.nd)
   (ss1 (aaG (amW (eCB cIs ZZ.ae PyProof.Rows.boot_isinstance (aC (v_ 6) (aC (eTy ZZ.ct PyProof.Rows.boot_bool) aN))) (amW (ad5 oEq (v_ 6) (v_ 4)) (ai9 (ad5 (oEqV hr.units) (v_ 5) (v_ 3))))))))),?_⟩
 refine⟨_,rfl,l,us,rfl,.inl hl,fun l2 n2=>?_⟩
 have s1:=aaB n2 (.lst us)
 have g1:upd H l2 (.lst us) l2=some (.lst us):=aaA
 generalize upd H l2 (.lst us)=H1 at s1 g1 ⊢
 refine⟨_,rfl,_,rfl,_,rfl,_,rfl,p,l2,b,e,m0,m1,m3,kd,kw,us,os,rfl,RowR.keepN (abB s1) hR,SqL.of g1,Paired.mapP hP (fun _ _ z=>z.keep s1),?_⟩
 rcases hc with ⟨c,rfl⟩ | ⟨c,g,rfl⟩ | ⟨c,z,rfl,g,hz,rfl⟩
 ·exact .inl ⟨c,fun H2 s2=>⟨_,rfl,.bl (decide (us.length=0)),.bool,.bool,rfl,(by decide),rfl,_,rfl,aa2 ⟨_,rfl,_,rfl,rfl,_,rfl,ifT (dQ rfl) ⟨_,rfl,_,rfl,l2,l,us,rfl,rfl,SqL.of (s2 _ _ g1),s2.seq (s1.seq hl),hok,q _ (s1.trans s2)⟩⟩⟩⟩
 ·exact .inr (.inl ⟨c,g,fun H2 s2=>⟨_,rfl,.bl false,.bool,.bool,rfl,(by decide),rfl,_,rfl,aa2 ⟨_,rfl,_,rfl,rfl,_,rfl,ifT (dQ rfl) ⟨_,rfl,_,rfl,l2,l,us,rfl,rfl,SqL.of (s2 _ _ g1),s2.seq (s1.seq hl),hok,q _ (s1.trans s2)⟩⟩⟩⟩)
 ·exact .inr (.inr ⟨c,z,rfl,g,.inl ⟨hz,fun H2 s2=>⟨_,rfl,.bl false,.bool,.bool,rfl,(by decide),rfl,_,rfl,aa2 ⟨_,rfl,_,rfl,rfl,_,rfl,ifT (dQ rfl) ⟨_,rfl,_,rfl,l2,l,us,rfl,rfl,SqL.of (s2 _ _ g1),s2.seq (s1.seq hl),hok,q _ (s1.trans s2)⟩⟩⟩⟩⟩)
theorem alD:Df P w K mg base "_law_truths" 12 [] (alP K aD aF aG aI aE aB aH aJ aA):=by
 refine ZZ.cp.dfs sc__law_truths (fun vs H Q E h=>?_) (fun f cdv A outer s H vs Q E hr h=>?_)
 ·obtain⟨rfl,_⟩:=h
  rfl
 obtain⟨rfl,q⟩:=h
 refine⟨_,(ssC (aaH 0 (eD (aiH ZZ) hr (aC (eSx [48,32,57,32,42,32,42,32,42]) aN)) sc__law_truths.nd)
   (ssC (ad6 (iL (aaW (aC (aaQ (aC eI (aC eI (aC (aaQ (aC eB (aC eI (aC (eSx [104,111,117,114]) aN)))) aN)))) (aC (aaQ (aC eI (aC eI (aC (aaQ (aC eB (aC eI (aC (eSx [104,111,117,114]) aN)))) aN)))) (aC (aaQ (aC eI (aC eI (aC (aaQ (aC eI (aC eB (aC (eSx [104,111,117,114]) aN)))) aN)))) aN))))) (gTu (gsC (gN 1 sc__law_truths.nd) (gsC (gN 2 sc__law_truths.nd) (gsC (gN 3 sc__law_truths.nd) gsN)))) (ss1 (sIf (tW (wOr (tCm aC8 (eD (aeM ZZ) hr (aC (v_ 0) (aC (v_ 1) (aC (v_ 2) (aC (aaW (aC (aaQ (aC (v_ 1) (aC (v_ 2) (aC (eSx [104,111,117,114]) aN)))) aN)) aN))))) eB) (afJ (tCm aC8 (eD (aeM ZZ) hr (aC (v_ 0) (aC (v_ 1) (aC (v_ 2) (aC (aaW (aC (v_ 3) aN)) aN))))) eB)))) (ss1 (aaG eB)) ssN)) PassesOwn.never)
   (ss1 (aaG (amW (ad5 aPG (eD (aeM ZZ) hr (aC (v_ 0) (aC eI (aC eI (aC (aaW (aC (aaQ (aC eI (aC eB (aC (eSx [104,111,117,114]) aN)))) aN)) aN))))) eB) (ai9 (ad5 aPG (eD (aeM ZZ) hr (aC (v_ 0) (aC eI (aC eI (aC (aaW (aC (aaQ (aC eI (aC eI (aC (eSx [104,111,117,114]) aN)))) aN)) aN))))) eB))))))),?_⟩
 refine⟨[48],[57],[42],[42],[42],aaN [0],aaN [9],aaN (ab0 1 12 1),none,none,rfl,ft_nought,ft_nine,ft_all,adK false,adK true,⟨by decide +kernel,by decide +kernel⟩,fun p dx dv wv tm H1 htm s1 hx hdv hwv=>?_⟩
 subst htm
 have hR:RowR (⟨aD,aF,aG,aI,aE,aB,aH,aJ⟩:Cs) aA H1 p (aaN [0]) (aaN [9]) (aaN (ab0 1 12 1)) (gO false none) (gO true none):=⟨dx,dv,wv,hx,⟨ft_nought.nn,ft_nine.nn,ft_all.nn⟩,⟨by decide +kernel,by decide +kernel⟩,hdv,hwv⟩
 have hour:∀a b:Int,0<=a->b<=539->∀t,a<=t->t<=b->tb (aaN [9]) (t%1440 / 60).toNat=false:=fun a b h0 h1 t h2 h3=>aA5 _ (by omega)
 have gone:∀a b:Int,gee a [] b [some ((a,b,[104,111,117,114]):TrX)]=true:=fun a b=>by
  show (if a=a/\¬ [104,111,117,114]=[] then decide (b+1=b+1) else false)=true
  rw[if_pos ⟨rfl,by decide⟩]
  exact dQ rfl
 refine⟨(zL 3),fun o1 nn1=>?_⟩
 have r1:=aaB nn1 (.tup [.bl false,.int 539,.str (Tx [104,111,117,114])])
 have G1:upd H1 o1 (.tup [.bl false,.int 539,.str (Tx [104,111,117,114])]) o1=some (.tup [.bl false,.int 539,.str (Tx [104,111,117,114])]):=aaA
 generalize upd H1 o1 (.tup [.bl false,.int 539,.str (Tx [104,111,117,114])])=E1 at r1 G1 ⊢
 refine⟨(zL 3),fun t1 nn2=>?_⟩
 have r2:=aaB nn2 (.tup [.int 0,.int 539,.ref o1])
 have G2:upd E1 t1 (.tup [.int 0,.int 539,.ref o1]) t1=some (.tup [.int 0,.int 539,.ref o1]):=aaA
 generalize upd E1 t1 (.tup [.int 0,.int 539,.ref o1])=E2 at r2 G2 ⊢
 refine⟨(zL 3),fun o2 nn3=>?_⟩
 have r3:=aaB nn3 (.tup [.bl true,.int 539,.str (Tx [104,111,117,114])])
 have G3:upd E2 o2 (.tup [.bl true,.int 539,.str (Tx [104,111,117,114])]) o2=some (.tup [.bl true,.int 539,.str (Tx [104,111,117,114])]):=aaA
 generalize upd E2 o2 (.tup [.bl true,.int 539,.str (Tx [104,111,117,114])])=E3 at r3 G3 ⊢
 refine⟨(zL 3),fun t2 nn4=>?_⟩
 have r4:=aaB nn4 (.tup [.int 1,.int 539,.ref o2])
 have G4:upd E3 t2 (.tup [.int 1,.int 539,.ref o2]) t2=some (.tup [.int 1,.int 539,.ref o2]):=aaA
 generalize upd E3 t2 (.tup [.int 1,.int 539,.ref o2])=E4 at r4 G4 ⊢
 refine⟨(zL 3),fun o3 nn5=>?_⟩
 have r5:=aaB nn5 (.tup [.int 0,.bl true,.str (Tx [104,111,117,114])])
 have G5:upd E4 o3 (.tup [.int 0,.bl true,.str (Tx [104,111,117,114])]) o3=some (.tup [.int 0,.bl true,.str (Tx [104,111,117,114])]):=aaA
 generalize upd E4 o3 (.tup [.int 0,.bl true,.str (Tx [104,111,117,114])])=E5 at r5 G5 ⊢
 refine⟨(zL 3),fun t3 nn6=>?_⟩
 have r6:=aaB nn6 (.tup [.int 0,.int 1,.ref o3])
 have G6:upd E5 t3 (.tup [.int 0,.int 1,.ref o3]) t3=some (.tup [.int 0,.int 1,.ref o3]):=aaA
 generalize upd E5 t3 (.tup [.int 0,.int 1,.ref o3])=E6 at r6 G6 ⊢
 refine⟨(zL 3),fun LL nn7=>?_⟩
 have r7:=aaB nn7 (.lst [.ref t1,.ref t2,.ref t3])
 have G7:upd E6 LL (.lst [.ref t1,.ref t2,.ref t3]) LL=some (.lst [.ref t1,.ref t2,.ref t3]):=aaA
 generalize upd E6 LL (.lst [.ref t1,.ref t2,.ref t3])=E7 at r7 G7 ⊢
 have sE:=((((((r1.trans r2).trans r3).trans r4).trans r5).trans r6).trans r7)
 have thr:∀x∈[V.ref t1,V.ref t2,V.ref t3],∃(t o:Addr) (a b:Int),x=.ref t/\E7 t=some (.tup [.int a,.int b,.ref o])/\(0<=a/\a<=b/\b<=539)/\Th K E7 (.ref o) none:=fun x hx=>by
  simp only[aW,bS,or_false] at hx
  rcases hx with rfl | rfl | rfl
  ·exact⟨t1,o1,0,539,rfl,r7 _ _ (r6 _ _ (r5 _ _ (r4 _ _ (r3 _ _ (G2))))),by decide,.tri o1 _ _ _ .bool .int .str rfl (r7 _ _ (r6 _ _ (r5 _ _ (r4 _ _ (r3 _ _ (r2 _ _ (G1))))))) rfl rfl rfl rfl⟩
  ·exact⟨t2,o2,1,539,rfl,r7 _ _ (r6 _ _ (r5 _ _ (G4))),by decide,.tri o2 _ _ _ .bool .int .str rfl (r7 _ _ (r6 _ _ (r5 _ _ (r4 _ _ (G3))))) rfl rfl rfl rfl⟩
  ·exact⟨t3,o3,0,1,rfl,r7 _ _ (G6),by decide,.tri o3 _ _ _ .int .bool .str rfl (r7 _ _ (r6 _ _ (G5))) rfl rfl rfl rfl⟩
 refine⟨LL,rfl,⟨_,SqL.of G7⟩,acR (K:=K) (a:=LL) (xs:=[.ref t1,.ref t2,.ref t3]) (fun i σ Hc=>∃v1 v2 v3:Option V,σ=[some (.ref p),v1,v2,v3]/\Same E7 Hc) ⟨_,_,_,rfl,Same.refl _⟩ (fun i σ Hc _ ⟨_,_,_,_,z⟩=>SqL.of (z _ _ G7)) ?tn ?dn⟩
 case tn=>
  rintro i x σ Hc hx ⟨v1,v2,v3,rfl,sc⟩
  obtain⟨t,o,a,b,rfl,ht,hab,hth⟩:=thr x (bL hx)
  refine⟨t,_,rfl,SqT.of (sc _ _ ht),rfl,_,_,rfl,_,_,rfl,_,_,rfl,rfl,?_⟩
  refine⟨_,rfl,_,rfl,_,rfl,_,rfl,_,rfl,(zL 3),fun u1 m1=>⟨(zL 1),fun u2 m2=>?_⟩⟩
  have a1:=aaB m1 (.tup [V.int a,V.int b,V.str (Tx [104,111,117,114])])
  have a2:=aaB m2 (.lst [V.ref u1])
  have b2:=sE.trans (sc.trans (a1.trans a2))
  refine⟨p,u2,a,b,aaN [0],aaN [9],aaN (ab0 1 12 1),gO false none,gO true none,_,[some (a,b,[104,111,117,114])],rfl,RowR.keepN (abB b2) hR,SqL.of aaA,.cons (.piece u1 _ rfl (a2 _ _ aaA) hab.2.1 (by show [104,111,117,114]∈WDS;decide)) .nil,.inr (.inr ⟨hab.2.1,_,rfl,gone a b,.inr ⟨(by show b-a<576000;omega),rfl,hour a b hab.1 hab.2.2,fun H9 s9=>?_⟩⟩)⟩
  refine⟨_,_,rfl,rfl,_,rfl,ifF rfl ⟨_,rfl,_,rfl,_,rfl,_,rfl,(zL 1),fun u3 m3'=>?_⟩⟩
  have a3:=aaB m3' (.lst [V.ref o])
  have c3:=(sc.trans (a1.trans a2)).trans (s9.trans a3)
  refine⟨p,u3,a,b,aaN [0],aaN [9],aaN (ab0 1 12 1),gO false none,gO true none,_,[none],rfl,RowR.keepN (abB (sE.trans c3)) hR,SqL.of aaA,.cons (hth.keep c3) .nil,.inr (.inl ⟨hab.2.1,rfl,fun H10 s10=>?_⟩)⟩
  exact⟨_,_,rfl,rfl,_,rfl,ifF rfl ⟨_,_,_,rfl,c3.trans s10⟩⟩
 case dn=>
  rintro σ Hc ⟨v1,v2,v3,rfl,sc⟩
  refine⟨_,rfl,(zL 3),fun u1 m1=>⟨(zL 1),fun u2 m2=>?_⟩⟩
  have a1:=aaB m1 (.tup [V.int 0,V.bl false,V.str (Tx [104,111,117,114])])
  have a2:=aaB m2 (.lst [V.ref u1])
  have b2:=sE.trans (sc.trans (a1.trans a2))
  refine⟨p,u2,0,0,aaN [0],aaN [9],aaN (ab0 1 12 1),gO false none,gO true none,_,[none],rfl,RowR.keepN (abB b2) hR,SqL.of aaA,.cons (.tri u1 _ _ _ .int .bool .str rfl (a2 _ _ aaA) rfl rfl rfl rfl) .nil,.inr (.inl ⟨by decide,rfl,fun H9 s9=>?_⟩)⟩
  refine⟨_,_,rfl,rfl,_,rfl,ifT rfl ⟨_,rfl,(zL 3),fun u3 m3'=>⟨(zL 1),fun u4 m4=>?_⟩⟩⟩
  have a3:=aaB m3' (.tup [V.int 0,V.int 0,V.str (Tx [104,111,117,114])])
  have a4:=aaB m4 (.lst [V.ref u3])
  have b4:=b2.trans (s9.trans (a3.trans a4))
  exact⟨p,u4,0,0,aaN [0],aaN [9],aaN (ab0 1 12 1),gO false none,gO true none,_,[some (0,0,[104,111,117,114])],rfl,RowR.keepN (abB b4) hR,SqL.of aaA,.cons (.piece u3 _ rfl (a4 _ _ aaA) (by decide) (by decide)) .nil,.inr (.inr ⟨by decide,_,rfl,gone 0 0,.inr ⟨by decide,rfl,hour 0 0 (by decide) (by decide),fun H10 s10=>⟨_,_,rfl,rfl,q _ (s1.trans (b4.trans s10))⟩⟩⟩)⟩
theorem alV:Df P w K mg base "_law_right" 12 ["_law_row","_law_moment_here","_law_cell","_law_mixed"] (amE K aD aF aG aI aE aB aH aJ aA aK aL):=by
 refine ZZ.c6.dfs sc__law_right (fun vs H Q E h=>?_) (fun f cdv A outer s H vs Q E hr h=>?_)
 ·obtain⟨_,_,_,_,_,_,_,_,_,rfl,_⟩:=h
  rfl
 obtain⟨p,mo,c,m0,m1,m3,kd,kw,bm,rfl,hR,hT,hmo,q⟩:=h
 refine⟨_,(ssK (akW (eD (an0 ZZ) hr (aC (v_ 0) (aC (v_ 1) aN))) (gTu (gsC (gN 4 sc__law_right.nd) (gsC (gN 5 sc__law_right.nd) gsN))))
   (ssC (aaH 6 (v_ 1) sc__law_right.nd)
   (ssK (sIf (tCm (aPD hr.units) (v_ 5) (aaW aN)) (ss1 (aaH 6 (eOp abI (v_ 4) eI) sc__law_right.nd)) ssN)
   (ssK (aaH 7 (eD (abG ZZ) hr (aC (v_ 2) (aC (aaW (aC eI (aC eI (aC eI (aC eI (aC (eOp asC eI eI) aN)))))) (aC (v_ 3) aN)))) sc__law_right.nd)
   (ssC (aaH 8 (eOp abL (eIx xL (v_ 7) eI) (eOp aaM (eCB akK ZZ.ag PySem.boot_len (aC (v_ 5) aN)) eI)) sc__law_right.nd)
   (ssK (akW (eIx xL (eOp ag2 (v_ 5) (aaW (aC (aaQ (aC (v_ 1) (aC (v_ 1) (aC (eSx [100,97,121]) aN)))) aN))) (v_ 8)) (gTu (gsC (gN 9 sc__law_right.nd) (gsC (gN 10 sc__law_right.nd) (gsC (gN 11 sc__law_right.nd) gsN)))))
   (ssC (ad6 (iR1 ZZ.ab (aC eI aN)) (gN 12 sc__law_right.nd) (ssK (aaH 13 (eD (aq5 ZZ) hr (aC (v_ 9) (aC (v_ 10) (aC (v_ 11) (aC (eIx xL (v_ 7) (eOp aaM eI (v_ 12))) aN))))) sc__law_right.nd)
   (ssK (ad6 (iL (aaW (aC (eOp ag2 (eOp ag2 (eSl slL (v_ 5) poN (poS (v_ 8))) (aaW (aC (v_ 13) aN))) (eSl slL (v_ 5) (poS (v_ 8)) poN)) (aC (eOp ag2 (eOp ag2 (eSl slL (v_ 5) poN (poS (v_ 8))) (aaW (aC (v_ 13) aN))) (eSl slL (v_ 5) (poS (eOp aaM (v_ 8) eI)) poN)) aN)))) (gN 14 sc__law_right.nd) (ss1 (sIf (tNo (tVa (eD (abJ ZZ) hr (aC (v_ 0) (aC (v_ 1) (aC (v_ 6) (aC (v_ 14) (aC eB aN)))))))) (ss1 (aaG eB)) ssN)) PassesOwn.never)
   (ss1 (sIf (tNo (tVa (eD (abJ ZZ) hr (aC (v_ 0) (aC (v_ 1) (aC (eOp abI (eOp abI (v_ 1) eI) (v_ 12)) (aC (aaW (aC (v_ 13) aN)) (aC eB aN)))))))) (ss1 (aaG eB)) ssN)))) PassesOwn.never)
   (ssC (aaH 15 (eOp aaM (eOp aaM (v_ 1) eI) (eOp abL (v_ 2) (eOp asC eI eI))) sc__law_right.nd)
   (ssK (sIf (tNo (tVa (eD (abJ ZZ) hr (aC (v_ 0) (aC (v_ 1) (aC (v_ 15) (aC (aaW (aC (aaQ (aC (v_ 1) (aC (v_ 15) (aC (eIx xL (aaW (aC (eSx [109,111,110,116,104]) (aC (eSx [100,97,121]) (aC (eSx [104,111,117,114]) (aC (eSx [109,105,110,117,116,101]) aN))))) (eOp abL (eIx xL (v_ 7) eI) eI)) aN)))) aN)) (aC eB aN)))))))) (ss1 (aaG eB)) ssN)
   (ssC (aaH 16 (eOp abI (eOp abI (v_ 1) eI) (eIx xL (v_ 7) eI)) sc__law_right.nd)
   (ssK (sIf (tW (wOr (tNo (tVa (eD (abJ ZZ) hr (aC (v_ 0) (aC (v_ 1) (aC (v_ 16) (aC (aaW aN) (aC eB aN)))))))) (afJ (tNo (tVa (eD (abJ ZZ) hr (aC (v_ 0) (aC (v_ 1) (aC (v_ 6) (aC (aaW aN) (aC eB aN))))))))))) (ss1 (aaG eB)) ssN)
   (ss1 (aaG (eD (abJ ZZ) hr (aC (v_ 0) (aC (v_ 1) (aC (v_ 16) (aC (aaW (aC (aaQ (aC (v_ 1) (aC (v_ 1) (aC (eSx [109,111,110,116,104]) aN)))) aN)) (aC eB aN))))))))))))))))))),?_⟩
 refine⟨(fun σ' H'=>∃(v1:V) (l1:Addr) (us1:List V) (sts:List TrX),σ'=[some (.ref p),some (.int mo),some (.int c),some (.bl bm),some v1,some (.ref l1),none,none,none,none,none,none,none,none,none,none,none]/\SameN H H'/\amK H' aK aL/\H' l1=some (.lst us1)/\(us1≠[]->∃e,v1=.int e/\mo<e)/\us1.length<=10000000/\Paired (TpX H') us1 sts/\(∀s∈sts,s.1<=s.2.1/\s.2.2∈WDS/\mo<=s.1/\s.1<mo+210379680)),?_,?_⟩
 ·refine⟨_,rfl,_,rfl,p,mo,m0,m1,m3,kd,kw,rfl,hR,hT,fun t1 l1 us1 H1 v1 s1 T1 fr1 h1 hl1 c1=>⟨t1,_,rfl,SqT.of h1,rfl,_,_,rfl,_,_,rfl,rfl,?_⟩⟩
  have hg:=hR.ok
  have hn:0<=m0/\0<=m1/\0<=m3:=by obtain⟨_,_,_,_,z,_⟩:=hR;exact z
  have hb:m1<2^24/\m0<2^60:=by obtain⟨_,_,_,_,_,z,_⟩:=hR;exact z
  rcases c1 with ⟨e,rfl,he,⟨a1,a2⟩,em,sz,sts,hP,cv⟩ | ⟨rfl,rfl,_⟩
  ·have nr:=awF hn hb hg he a2
   refine⟨_,l1,us1,sts,rfl,s1,T1,hl1,fun ne=>⟨e,rfl,?_⟩,sz,hP,fun s hs=>by obtain⟨b1,b2,b3,b4⟩:=auN cv s hs;exact⟨b1,b2,b3,by omega⟩⟩
   rcases (show e=mo∨mo<e by omega) with w' | w'
   ·exact absurd (em w') ne
   ·exact w'
  ·exact⟨_,l1,[],[],rfl,s1,T1,hl1,(fun ne=>absurd rfl ne),bO _,.nil,fun s hs=>nomatch hs⟩
 rintro σ' H1 ⟨v1,l1,us1,sts,rfl,s1,T1,hl1,hv1,hsz,hP,hst⟩
 refine⟨_,rfl,(fun σ' H'=>∃en:Int,σ'=[some (.ref p),some (.int mo),some (.int c),some (.bl bm),some v1,some (.ref l1),some (.int en),none,none,none,none,none,none,none,none,none,none]/\Same H1 H'/\mo<=en),?_,?_⟩
 ·refine⟨_,rfl,(zL 0),fun l0 n0=>?_⟩
  have s0:=aaB n0 (.lst [])
  refine⟨l1,l0,us1,rfl,rfl,SqL.of (s0 _ _ hl1),SqL.of aaA,_,rfl,ifD (fun ne=>?_) (fun _=>⟨mo,rfl,s0,aV _⟩)⟩
  obtain⟨e,rfl,le⟩:=hv1 ne
  exact⟨_,rfl,_,_,rfl,rfl,e-1,rfl,s0,by omega⟩
 rintro σ' H2 ⟨en,rfl,s2,hen⟩
 have hl2:=s2 _ _ hl1
 have hP2:Paired (TpX H2) us1 sts:=Paired.mapP hP fun _ _ z=>akS (fun b xs hb=>s2 _ _ hb) z
 have sN2:=s1.trans (abB s2)
 have hR2:=RowR.keepN sN2 hR
 have T2:=ae3 s2 T1
 clear hv1 hP hl1
 have inTh:∀{H':Hp},Same H2 H'->∀x∈us1,(∃o,Th K H' x o)/\okV x=true:=fun {H'} sH x hx=>by
  obtain⟨i,hi,ei⟩:=List.getElem_of_mem hx
  obtain⟨z,hz,t,rfl,ht⟩:=ae2 hP2 (show us1[i]? =some x by rw[cH hi,ei])
  obtain⟨b1,b2,_⟩:=hst z (bL hz)
  exact⟨⟨some z,.piece t z rfl (sH _ _ ht) b1 b2⟩,rfl⟩
 refine⟨(fun σ' H'=>∃(pd:Addr) (ds:List Int),σ'=[some (.ref p),some (.int mo),some (.int c),some (.bl bm),some v1,some (.ref l1),some (.int en),some (.ref pd),none,none,none,none,none,none,none,none,none]/\Same H2 H'/\H' pd=some (.lst (ds.map V.int))/\Digs ds [101,21,21,21,10^(6:Int).toNat]),?_,?_⟩
 ·have e5:∀z∈([101,21,21,21,10^(6:Int).toNat]:List Int),0<z/\z<1073741824:=by decide +kernel
  exact⟨_,rfl,_,_,rfl,rfl,⟨by decide,by decide,by decide⟩,(zL 5),fun ls hls=>⟨_,rfl,c,ls,bm,[101,21,21,21,10^(6:Int).toNat],rfl,SqL.of aaA,e5,(by decide),fun ds pd H3 s3 hp hd=>⟨pd,ds,rfl,(aaB hls _).trans s3,hp,hd⟩⟩⟩
 rintro σ' H3 ⟨pd,ds,rfl,s3,hp,hd⟩
 obtain⟨d0,e0,k0,k1⟩:=abR (i:=0) hd rfl
 have q1:=bW d0 (show ((us1.length:Nat):Int)+1≠0 by omega)
 have q2:=cF d0 (show (0:Int)<((us1.length:Nat):Int)+1 by omega)
 obtain⟨ai,eai⟩:∃ai:Int,ai=d0%(((us1.length:Nat):Int)+1):=⟨_,rfl⟩
 rw[←eai] at q1 q2
 refine⟨_,rfl,pd,_,_,_,rfl,rfl,SqL.of hp,ab1 e0,_,rfl,l1,_,rfl,.inl (SqL.of (s3 _ _ hl2)),_,_,rfl,rfl,_,_,rfl,rfl,(by show (0:Int)<((us1.length:Nat):Int)+1;omega),?_⟩
 show abX 8 (V.int (d0%(((us1.length:Nat):Int)+1))) _ _ _
 rw[←eai]
 clear eai k0 k1
 refine⟨(fun σ' H'=>∃(f l:Int) (w':List Nat),σ'=[some (.ref p),some (.int mo),some (.int c),some (.bl bm),some v1,some (.ref l1),some (.int en),some (.ref pd),some (.int ai),some (.int f),some (.int l),some (.str (Tx w')),none,none,none,none,none]/\Same H3 H'/\w'∈WDS/\(-(10^500)<f/\f<10^500)),?_,?_⟩
 ·refine⟨_,rfl,_,rfl,_,rfl,(zL 3),fun u4 n4=>⟨(zL 1),fun L5 n5=>?_⟩⟩
  have a4:=aaB n4 (.tup [V.int mo,V.int mo,V.str (Tx [100,97,121])])
  have a5:=aaB n5 (.lst [V.ref u4])
  refine⟨l1,L5,us1,[.ref u4],rfl,rfl,SqL.of (a5 _ _ (a4 _ _ (s3 _ _ hl2))),SqL.of aaA,(by rw[dN];show us1.length+1<=_;omega),fun L6 n6=>?_⟩
  have a6:=aaB n6 (.lst (us1++[V.ref u4]))
  obtain⟨v,hv,hm⟩:=atF (xs:=us1++[V.ref u4]) (i:=ai) q1 (by rw[aU];exact q2)
  refine⟨_,rfl,L6,_,_,_,rfl,rfl,SqL.of aaA,hv,?_⟩
  rcases bH.mp hm with hx | hx
  ·obtain⟨i,hi,ei⟩:=List.getElem_of_mem hx
   obtain⟨z,hz,t,rfl,ht⟩:=ae2 hP2 (show us1[i]? =some v by rw[cH hi,ei])
   obtain⟨b1,b2,b3,b4⟩:=hst z (bL hz)
   exact⟨t,_,rfl,SqT.of (a6 _ _ (a5 _ _ (a4 _ _ (s3 _ _ ht)))),rfl,_,_,rfl,_,_,rfl,_,_,rfl,rfl,z.1,z.2.1,z.2.2,rfl,a4.trans (a5.trans a6),b2,axR (by omega)⟩
  ·obtain rfl:v=.ref u4:=by simpa using hx
   exact⟨u4,_,rfl,SqT.of (a6 _ _ (a5 _ _ aaA)),rfl,_,_,rfl,_,_,rfl,_,_,rfl,rfl,mo,mo,[100,97,121],rfl,a4.trans (a5.trans a6),by decide,axR (by omega)⟩
 rintro σ' H6 ⟨f,l,w',rfl,s6,hw,hf⟩
 have hp6:=s6 _ _ hp
 have s26:=s3.trans s6
 refine⟨_,rfl,by decide,by decide,ab2 (fun i σ H7=>∃v12 v13 v14:Option V,σ=[some (.ref p),some (.int mo),some (.int c),some (.bl bm),some v1,some (.ref l1),some (.int en),some (.ref pd),some (.int ai),some (.int f),some (.int l),some (.str (Tx w')),v12,v13,v14,none,none]/\Same H6 H7) ⟨_,_,_,rfl,Same.refl _⟩ ?turn ?done⟩
 case turn=>
  rintro j σ H7 hj ⟨v12,v13,v14,rfl,s7⟩
  have hj3:j<3:=hj
  obtain⟨dj,ej,kj0,kj1⟩:∃dj:Int,ds[1+j]? =some dj/\0<=dj/\dj<21:=by
   match j,hj3 with
   |0,_=>exact abR (i:=1) hd rfl
   |1,_=>exact abR (i:=2) hd rfl
   |2,_=>exact abR (i:=3) hd rfl
  refine⟨(fun σ' H'=>∃v:V,σ'=[some (.ref p),some (.int mo),some (.int c),some (.bl bm),some v1,some (.ref l1),some (.int en),some (.ref pd),some (.int ai),some (.int f),some (.int l),some (.str (Tx w')),some (.int (0+(j:Int))),some v,v14,none,none]/\Same H7 H'/\Th K H' v none/\okV v=true),?_,?_⟩
  ·exact⟨_,rfl,_,rfl,_,rfl,_,rfl,_,rfl,_,_,rfl,rfl,pd,_,_,_,rfl,rfl,SqL.of (s7 _ _ hp6),(by rw[show (1:Int)+(0+(j:Int))=((1+j:Nat):Int) by omega];exact ab1 ej),f,l,dj,w',rfl,hw,⟨kj0,kj1⟩,hf,fun v H8 s8 hth hok=>⟨v,rfl,s8,hth,hok⟩⟩
  rintro σ' H8 ⟨v,rfl,s8,hth,hok⟩
  have s28:=s26.trans (s7.trans s8)
  refine⟨(fun σ' H'=>∃v14:Option V,σ'=[some (.ref p),some (.int mo),some (.int c),some (.bl bm),some v1,some (.ref l1),some (.int en),some (.ref pd),some (.int ai),some (.int f),some (.int l),some (.str (Tx w')),some (.int (0+(j:Int))),some v,v14,none,none]/\Same H8 H'),?_,?_⟩
  ·have hl8:=s28 _ _ hl2
   refine⟨_,rfl,_,rfl,_,rfl,l1,_,rfl,SqL.of hl8,fun c1 nn1=>?_⟩
   have r1:=aaB nn1 (.lst (aaV us1 none (some ai)))
   have G1:upd H8 c1 (.lst (aaV us1 none (some ai))) c1=some (.lst (aaV us1 none (some ai))):=aaA
   generalize upd H8 c1 (.lst (aaV us1 none (some ai)))=E1 at r1 G1 ⊢
   refine⟨_,rfl,(zL 1),fun c2 nn2=>?_⟩
   have r2:=aaB nn2 (.lst [v])
   have G2:upd E1 c2 (.lst [v]) c2=some (.lst [v]):=aaA
   generalize upd E1 c2 (.lst [v])=E2 at r2 G2 ⊢
   refine⟨c1,c2,_,_,rfl,rfl,SqL.of (r2 _ _ (G1)),SqL.of G2,(by rw[dN];have:=ac1 (us:=us1) (a:=ai) (b:=ai) q1 (aV _) (by omega);have:=ac1 (us:=us1) (a:=ai) (b:=ai+1) q1 (by omega) (by omega);simp only[aU,bM];omega),fun c3 nn3=>?_⟩
   have r3:=aaB nn3 (.lst (aaV us1 none (some ai)++[v]))
   have G3:upd E2 c3 (.lst (aaV us1 none (some ai)++[v])) c3=some (.lst (aaV us1 none (some ai)++[v])):=aaA
   generalize upd E2 c3 (.lst (aaV us1 none (some ai)++[v]))=E3 at r3 G3 ⊢
   refine⟨_,rfl,_,rfl,_,rfl,l1,_,rfl,SqL.of (r3 _ _ (r2 _ _ (r1 _ _ (hl8)))),fun c4 nn4=>?_⟩
   have r4:=aaB nn4 (.lst (aaV us1 (some ai) none))
   have G4:upd E3 c4 (.lst (aaV us1 (some ai) none)) c4=some (.lst (aaV us1 (some ai) none)):=aaA
   generalize upd E3 c4 (.lst (aaV us1 (some ai) none))=E4 at r4 G4 ⊢
   refine⟨c3,c4,_,_,rfl,rfl,SqL.of (r4 _ _ (G3)),SqL.of G4,(by rw[dN];have:=ac1 (us:=us1) (a:=ai) (b:=ai) q1 (aV _) (by omega);have:=ac1 (us:=us1) (a:=ai) (b:=ai+1) q1 (by omega) (by omega);simp only[aU,bM];omega),fun c5 nn5=>?_⟩
   have r5:=aaB nn5 (.lst (aaV us1 none (some ai)++[v]++aaV us1 (some ai) none))
   have G5:upd E4 c5 (.lst (aaV us1 none (some ai)++[v]++aaV us1 (some ai) none)) c5=some (.lst (aaV us1 none (some ai)++[v]++aaV us1 (some ai) none)):=aaA
   generalize upd E4 c5 (.lst (aaV us1 none (some ai)++[v]++aaV us1 (some ai) none))=E5 at r5 G5 ⊢
   refine⟨_,rfl,_,rfl,_,rfl,l1,_,rfl,SqL.of (r5 _ _ (r4 _ _ (r3 _ _ (r2 _ _ (r1 _ _ (hl8)))))),fun d1 nn6=>?_⟩
   have r6:=aaB nn6 (.lst (aaV us1 none (some ai)))
   have G6:upd E5 d1 (.lst (aaV us1 none (some ai))) d1=some (.lst (aaV us1 none (some ai))):=aaA
   generalize upd E5 d1 (.lst (aaV us1 none (some ai)))=E6 at r6 G6 ⊢
   refine⟨_,rfl,(zL 1),fun d2 nn7=>?_⟩
   have r7:=aaB nn7 (.lst [v])
   have G7:upd E6 d2 (.lst [v]) d2=some (.lst [v]):=aaA
   generalize upd E6 d2 (.lst [v])=E7 at r7 G7 ⊢
   refine⟨d1,d2,_,_,rfl,rfl,SqL.of (r7 _ _ (G6)),SqL.of G7,(by rw[dN];have:=ac1 (us:=us1) (a:=ai) (b:=ai) q1 (aV _) (by omega);have:=ac1 (us:=us1) (a:=ai) (b:=ai+1) q1 (by omega) (by omega);simp only[aU,bM];omega),fun d3 nn8=>?_⟩
   have r8:=aaB nn8 (.lst (aaV us1 none (some ai)++[v]))
   have G8:upd E7 d3 (.lst (aaV us1 none (some ai)++[v])) d3=some (.lst (aaV us1 none (some ai)++[v])):=aaA
   generalize upd E7 d3 (.lst (aaV us1 none (some ai)++[v]))=E8 at r8 G8 ⊢
   refine⟨_,rfl,_,rfl,_,_,rfl,rfl,_,rfl,l1,_,rfl,SqL.of (r8 _ _ (r7 _ _ (r6 _ _ (r5 _ _ (r4 _ _ (r3 _ _ (r2 _ _ (r1 _ _ (hl8))))))))),fun d4 nn9=>?_⟩
   have r9:=aaB nn9 (.lst (aaV us1 (some (ai+1)) none))
   have G9:upd E8 d4 (.lst (aaV us1 (some (ai+1)) none)) d4=some (.lst (aaV us1 (some (ai+1)) none)):=aaA
   generalize upd E8 d4 (.lst (aaV us1 (some (ai+1)) none))=E9 at r9 G9 ⊢
   refine⟨d3,d4,_,_,rfl,rfl,SqL.of (r9 _ _ (G8)),SqL.of G9,(by rw[dN];have:=ac1 (us:=us1) (a:=ai) (b:=ai) q1 (aV _) (by omega);have:=ac1 (us:=us1) (a:=ai) (b:=ai+1) q1 (by omega) (by omega);simp only[aU,bM];omega),fun d5 nn10=>?_⟩
   have r10:=aaB nn10 (.lst (aaV us1 none (some ai)++[v]++aaV us1 (some (ai+1)) none))
   have G10:upd E9 d5 (.lst (aaV us1 none (some ai)++[v]++aaV us1 (some (ai+1)) none)) d5=some (.lst (aaV us1 none (some ai)++[v]++aaV us1 (some (ai+1)) none)):=aaA
   generalize upd E9 d5 (.lst (aaV us1 none (some ai)++[v]++aaV us1 (some (ai+1)) none))=E10 at r10 G10 ⊢
   refine⟨(zL 2),fun LL nn11=>?_⟩
   have r11:=aaB nn11 (.lst [.ref c5,.ref d5])
   have G11:upd E10 LL (.lst [.ref c5,.ref d5]) LL=some (.lst [.ref c5,.ref d5]):=aaA
   generalize upd E10 LL (.lst [.ref c5,.ref d5])=E11 at r11 G11 ⊢
   have sE:=((((((((((r1.trans r2).trans r3).trans r4).trans r5).trans r6).trans r7).trans r8).trans r9).trans r10).trans r11)
   have s2E:=s28.trans sE
   have hthE:=hth.keep sE
   have two:∀x∈[V.ref c5,V.ref d5],∃(X:Addr) (B:List V),x=.ref X/\E11 X=some (.lst ((aaV us1 none (some ai))++[v]++B))/\(∀y∈B,y∈us1):=fun x hx=>by
    simp only[aW,bS,or_false] at hx
    rcases hx with rfl | rfl
    ·exact⟨c5,_,rfl,r11 _ _ (r10 _ _ (r9 _ _ (r8 _ _ (r7 _ _ (r6 _ _ (G5)))))),fun y hy=>ajM hy⟩
    ·exact⟨d5,_,rfl,r11 _ _ (G10),fun y hy=>ajM hy⟩
   refine⟨LL,rfl,⟨_,SqL.of G11⟩,acR (K:=K) (a:=LL) (xs:=[.ref c5,.ref d5]) (fun i σ Hc=>∃v14:Option V,σ=[some (.ref p),some (.int mo),some (.int c),some (.bl bm),some v1,some (.ref l1),some (.int en),some (.ref pd),some (.int ai),some (.int f),some (.int l),some (.str (Tx w')),some (.int (0+(j:Int))),some v,v14,none,none]/\Same E11 Hc) ⟨_,rfl,Same.refl _⟩ (fun i σ Hc _ ⟨_,_,z⟩=>SqL.of (z _ _ G11)) ?tn (fun σ Hc ⟨w14,e,sc⟩=>⟨w14,e,sE.trans sc⟩)⟩
   case tn=>
    rintro i x σ Hc hx ⟨v14,rfl,sc⟩
    obtain⟨X,B,rfl,hX,hB⟩:=two x (bL hx)
    have s2c:=s2E.trans sc
    obtain⟨os,hos,hno⟩:=aw8 (K:=K) (H:=Hc) (A:=(aaV us1 none (some ai))) (B:=B) (fun y hy=>(inTh s2c y (ajM hy)).1) (fun y hy=>(inTh s2c y (hB y hy)).1) (hthE.keep sc)
    refine⟨_,rfl,_,rfl,_,rfl,_,rfl,p,X,mo,en,m0,m1,m3,kd,kw,_,os,false,rfl,RowR.keepN (abB s2c) hR2,SqL.of (sc _ _ hX),hos,?_,.inr (.inl ⟨hen,au9 hno,rfl⟩),fun H9 s9=>⟨_,rfl,ifF rfl ⟨_,rfl,sc.trans s9⟩⟩⟩
    intro y hy
    rcases bH.mp hy with hy | hy
    ·rcases bH.mp hy with hy | hy
     ·exact (inTh s2c y (ajM hy)).2
     ·rw[bI.mp hy];exact hok
    ·exact (inTh s2c y (hB y hy)).2
  rintro σ' Hc ⟨v14',rfl,sc⟩
  refine⟨_,rfl,_,rfl,_,rfl,_,_,rfl,rfl,_,rfl,_,_,rfl,rfl,_,rfl,(zL 1),fun u9 n9=>?_⟩
  have s9:=sc.trans (aaB n9 (.lst [v]))
  exact⟨p,u9,mo,mo-1-(0+(j:Int)),m0,m1,m3,kd,kw,[v],[none],false,rfl,RowR.keepN (abB (s28.trans s9)) hR2,SqL.of aaA,.cons (hth.keep s9) .nil,(fun y hy=>by rw[bI.mp hy];exact hok),.inl ⟨by omega,rfl⟩,fun H9 s9'=>⟨_,rfl,ifF rfl ⟨_,_,_,rfl,s7.trans (s8.trans (s9.trans s9'))⟩⟩⟩
 case done=>
  rintro σ H7 ⟨v12,v13,v14,rfl,s7⟩
  obtain⟨d4,e4,k4,_⟩:=abR (i:=4) hd rfl
  have s27:=s26.trans s7
  have hR7:=RowR.keepN (abB s27) hR2
  have hp7:=s7 _ _ hp6
  have p50:=bW c (show (10:Int)^(50:Int).toNat≠0 by decide +kernel)
  refine⟨_,rfl,_,_,rfl,rfl,_,rfl,_,_,rfl,rfl,⟨by decide,by decide,by decide⟩,_,_,rfl,rfl,(by show (0:Int)<10^(50:Int).toNat;decide +kernel),_,_,rfl,rfl,?_⟩
  obtain⟨gr,egr⟩:∃gr:Int,gr=mo+576001+c%10^(50:Int).toNat:=⟨_,rfl⟩
  have hgr:mo+576001<=gr:=by omega
  show abX 15 (V.int (mo+576001+c%10^(50:Int).toNat)) _ _ _
  rw[←egr]
  clear egr p50
  refine⟨(fun σ' H'=>σ'=[some (.ref p),some (.int mo),some (.int c),some (.bl bm),some v1,some (.ref l1),some (.int en),some (.ref pd),some (.int ai),some (.int f),some (.int l),some (.str (Tx w')),v12,v13,v14,some (.int gr),none]/\Same H7 H'),?_,?_⟩
  ·refine⟨_,rfl,_,rfl,_,rfl,_,rfl,_,rfl,(zL 4),fun W1 n1=>?_⟩
   have r1:=aaB n1 (.lst [V.str (Tx [109,111,110,116,104]),V.str (Tx [100,97,121]),V.str (Tx [104,111,117,114]),V.str (Tx [109,105,110,117,116,101])])
   have x1:=bW d4 (show (4:Int)≠0 by decide)
   have x2:=cF d4 (show (0:Int)<4 by decide)
   obtain⟨vw,hvw,hvm⟩:=atF (xs:=[V.str (Tx [109,111,110,116,104]),V.str (Tx [100,97,121]),V.str (Tx [104,111,117,114]),V.str (Tx [109,105,110,117,116,101])]) (i:=d4%4) x1 x2
   obtain⟨wq,rfl,hwq⟩:=aw4 hvm
   have hwn:wq≠[]:=fun z=>by rw[z] at hwq;exact absurd hwq (by decide)
   refine⟨_,rfl,pd,_,_,_,rfl,rfl,SqL.of (r1 _ _ hp7),ab1 e4,_,_,rfl,rfl,(by show (0:Int)<4;decide),W1,_,_,_,rfl,rfl,SqL.of aaA,hvw,(zL 3),fun u2 n2=>⟨(zL 1),fun u3 n3=>?_⟩⟩
   have r2:=aaB n2 (.tup [V.int mo,V.int gr,V.str (Tx wq)])
   have r3:=aaB n3 (.lst [V.ref u2])
   have s2r:=r1.trans (r2.trans r3)
   exact⟨p,u3,mo,gr,m0,m1,m3,kd,kw,_,[some (mo,gr,wq)],false,rfl,RowR.keepN (abB s2r) hR7,SqL.of aaA,.cons (.piece u2 _ rfl (r3 _ _ aaA) (by show mo<=gr;omega) hwq) .nil,(fun y hy=>by rw[bI.mp hy];rfl),.inr (.inr ⟨by omega,_,rfl,aCE hwn,(by show 576000<=gr-mo;omega),rfl⟩),fun H9 s9=>⟨_,rfl,ifF rfl ⟨rfl,s2r.trans s9⟩⟩⟩
  rintro σ' H9 ⟨rfl,s79⟩
  refine⟨_,rfl,_,_,rfl,rfl,_,rfl,pd,_,_,_,rfl,rfl,SqL.of (s79 _ _ hp7),ab1 e4,_,_,rfl,rfl,?_⟩
  refine⟨(fun σ' H'=>σ'=[some (.ref p),some (.int mo),some (.int c),some (.bl bm),some v1,some (.ref l1),some (.int en),some (.ref pd),some (.int ai),some (.int f),some (.int l),some (.str (Tx w')),v12,v13,v14,some (.int gr),some (.int (mo-1-d4))]/\Same H7 H'),?_,?_⟩
  ·refine⟨_,rfl,_,rfl,_,rfl,(zL 0),fun u4' n4'=>?_⟩
   have r4:=s79.trans (aaB n4' (.lst []))
   refine⟨p,u4',mo,mo-1-d4,m0,m1,m3,kd,kw,[],[],true,rfl,RowR.keepN (abB r4) hR7,SqL.of aaA,.nil,(fun y hy=>nomatch hy),.inl ⟨by omega,rfl⟩,fun H10 s10=>⟨_,rfl,ifF rfl ?_⟩⟩
   refine⟨_,rfl,_,rfl,_,rfl,(zL 0),fun u5 n5'=>?_⟩
   have r5:=(r4.trans s10).trans (aaB n5' (.lst []))
   have gg2:gee mo [] en []=false:=dU (by omega)
   exact⟨p,u5,mo,en,m0,m1,m3,kd,kw,[],[],false,rfl,RowR.keepN (abB r5) hR7,SqL.of aaA,.nil,(fun y hy=>nomatch hy),.inr (.inl ⟨hen,gg2,rfl⟩),fun H11 s11=>⟨_,rfl,ifF rfl ⟨rfl,r5.trans s11⟩⟩⟩
  rintro σ' H11 ⟨rfl,s711⟩
  refine⟨_,rfl,_,rfl,_,rfl,_,rfl,_,rfl,(zL 3),fun u6 n6'=>⟨(zL 1),fun u7 n7=>?_⟩⟩
  have r7:=(s711.trans (aaB n6' (.tup [V.int mo,V.int mo,V.str (Tx [109,111,110,116,104])]))).trans (aaB n7 (.lst [V.ref u6]))
  exact⟨p,u7,mo,mo-1-d4,m0,m1,m3,kd,kw,_,[some (mo,mo,[109,111,110,116,104])],false,rfl,RowR.keepN (abB r7) hR7,SqL.of aaA,.cons (.piece u6 _ rfl (aaB n7 _ _ _ aaA) (aV _) (by show [109,111,110,116,104]∈WDS;decide)) .nil,(fun y hy=>by rw[bI.mp hy];rfl),.inl ⟨by omega,rfl⟩,fun H12 s12=>q _ (sN2.trans (abB (s27.trans (r7.trans s12)))) (ae3 (s27.trans (r7.trans s12)) T2)⟩
theorem aFH{fL:Addr}{fdL:FuncData}(F:Fun K "law" "law" am2 fL fdL):FnOk P w K mg base CX0 13 fL fdL ["_law_script"] (apR K aK aL):=by
 refine F.oks sc_law (fun vs H Q E h=>?_) (fun cdv A outer s H vs Q E hr h=>?_)
 ·obtain⟨_,_,rfl,_⟩:=h
  rfl
 obtain⟨a,ns,rfl,hS,hlen,hT,q⟩:=h
 refine⟨_,(ssC (aaH 1 (ad5 oEq (eOp abL (eD (ad2 ZZ) hr (aC (v_ 0) (aC eI aN))) eI) eI) sc_law.nd)
   (ssC (ad6 (iR1 ZZ.ab (aC eI aN)) (gN 2 sc_law.nd) (ssC (aC3 3 ["_law_script","_law_k"] [0,2] (iR1 ZZ.ab (aC eI aN)) (fun _ _ _ _ _ _=>fsN) (fun _ _ _ _ _ _=>(eD (ad2 ZZ) hr (aC (v_ 1) (aC (eOp aaM (eOp aaM eI (eOp acG eI (v_ 2))) (v_ 0)) aN)))) sc_law.nd)
   (ssC (aaH 4 (eD (aoL ZZ) hr (aC (eSl slL (v_ 3) poN (poS eI)) (aC (v_ 1) aN))) sc_law.nd)
   (ssC (aaH 5 (eD (akN ZZ) hr (aC (eIx xL (v_ 3) eI) (aC (v_ 1) aN))) sc_law.nd)
   (ss1 (sIf (tNo (tVa (eD (alV ZZ) hr (aC (eD (aiH ZZ) hr (aC (eIx xT (v_ 4) eI) aN)) (aC (v_ 5) (aC (eIx xL (v_ 3) eI) (aC (v_ 1) aN))))))) (ss1 (aaG eB)) ssN))))) PassesOwn.never)
   (ss1 (aaG (eD0 (alD ZZ) hr))))),?_⟩
 refine⟨_,rfl,a,_,rfl,⟨ns,hS⟩,⟨by decide,by decide⟩,fun c0=>⟨_,_,rfl,rfl,(by show (0:Int)<2;decide),rfl,?_⟩⟩
 obtain⟨bm,ebm⟩:∃bm,bm=decide (V.int (c0%2)=V.int 1):=⟨_,rfl⟩
 show abX 1 (V.bl (decide (V.int (c0%2)=V.int 1))) _ _ _
 rw[←ebm]
 refine⟨_,rfl,by decide,by decide,ab2 (fun i σ H2=>∃v2 v3 v4 v5:Option V,σ=[some (.ref a),some (.bl bm),v2,v3,v4,v5]/\SameN H H2/\amK H2 aK aL) ⟨_,_,_,_,rfl,abB (Same.refl _),hT⟩ ?turn ?done⟩
 case done=>
  rintro σ H2 ⟨v2,v3,v4,v5,rfl,_⟩
  exact⟨rfl,fun H3 _=>q H3⟩
 case turn=>
  rintro i σ H2 hi ⟨v2,v3,v4,v5,rfl,sN,hT2⟩
  have hi2:i<2:=hi
  refine⟨_,rfl,by decide,by decide,adF (fun i z=>∃cs:List Int,cs.length=i/\z=cs.map V.int) (zL 7) ⟨[],rfl,rfl⟩ ?st ?dn⟩
  case st=>
   rintro j z D H3 E' F' hj ⟨cs,hl,rfl⟩ hD s3 hz hE hF
   have hj':j<7:=hj
   exact⟨_,rfl,_,rfl,_,_,rfl,rfl,.inl ⟨by decide,by decide⟩,_,_,rfl,rfl,_,rfl,_,_,rfl,rfl,a,_,rfl,⟨ns,s3.seq (awL sN hS)⟩,⟨by omega,by omega⟩,fun c=>hE _ _ (Same.refl _) ⟨cs++[c],by rw[aU,hl];rfl,by rw[bD];rfl⟩⟩
  case dn=>
   rintro C H3 z ⟨cs,hl,rfl⟩ hD s3 hz
   obtain⟨x0,x1,x2,x3,x4,x5,x6,rfl⟩:∃x0 x1 x2 x3 x4 x5 x6:Int,cs=[x0,x1,x2,x3,x4,x5,x6]:=by
    match cs,hl with
    |[x0,x1,x2,x3,x4,x5,x6],_=>exact⟨_,_,_,_,_,_,_,rfl⟩
   refine⟨_,rfl,_,rfl,C,_,rfl,SqL.of hz,fun pc hpc=>?_⟩
   have s4:=aaB hpc (.lst [V.int x0,V.int x1,V.int x2,V.int x3,V.int x4])
   refine⟨_,rfl,pc,x0,x1,x2,x3,x4,bm,rfl,SqL.of aaA,fun t w0 w1 w2 w3 w4 m0 m1 m3 y1 y2 y3 y4 y5 kd kw H5 s5 ht f0 f1 f3 d2 d4 hb=>?_⟩
   have s35:=s4.trans s5
   refine⟨_,rfl,C,_,_,_,rfl,rfl,SqL.of (s35 _ _ hz),rfl,_,rfl,x5,bm,rfl,fun mo H6 hmo s6=>?_⟩
   refine⟨_,rfl,t,_,_,_,rfl,rfl,SqT.of (s6 _ _ ht),rfl,w0,w1,w2,w3,w4,m0,m1,m3,kd,kw,rfl,f0,f1,f3,d2,d4,hb,fun x dx dv wv tm H7 htm s7 hx hdv hwv=>?_⟩
   subst htm
   have s67:=s35.trans (s6.trans s7)
   have s27:Same H2 H7:=s3.trans s67
   have hR:RowR (⟨aD,aF,aG,aI,aE,aB,aH,aJ⟩:Cs) aA H7 x m0 m1 m3 (gO false kd) (gO true kw):=⟨dx,dv,wv,hx,⟨f0.nn,f1.nn,f3.nn⟩,⟨hb.2,hb.1⟩,hdv,hwv⟩
   exact⟨_,rfl,_,rfl,C,_,_,_,rfl,rfl,SqL.of (s67 _ _ hz),rfl,_,rfl,x,mo,x6,m0,m1,m3,gO false kd,gO true kw,bm,rfl,hR,ae3 s27 hT2,hmo,fun H10 s10 T10=>⟨_,rfl,ifF rfl ⟨_,_,_,_,rfl,(sN.trans (abB s27)).trans s10,T10⟩⟩⟩
end
theorem all_mk{l:PySem.W.OpenLaw}{w:World}{K:FG}{h:Heap}{mg:Str->Option Value}{fa f:Addr}{aJ aD aF aG aI aE aB aH aA aO aM aP aK aL a_MONTH_LASTS a_BOUNDS a_WORDS a_BOUNDS_0 a_BOUNDS_1 a_BOUNDS_3:Addr}{t_ROUND_DAYS t_ROUND_YEARS t_LONG_PLACE t_DAY_MINUTES t_HOUR_MINUTES t_FIGURES t_MOST_STRIDE t_MOST_SIGNS t_MOST_ITEMS t_SATURDAY t_SUNDAY t_MOST_BACK t_MOST_DAY t_SUNDAY_TOO t_MOST_NTH t_MOST_MARKS t_ALL_WEEKDAYS t_LONG_LAST t_SHORT_YEAR t_MINUTE t_HOUR t_DAY t_MONTH t_WEEKDAY t_MOST_ROW_SIGNS t_NO_PLACE t_MOST_MONTHS t_MOST_DAYS:Tok}{oc kV dc pm cd ct:Value}{od an:Option Addr}{sl:Array (Option Value)}(X:K.In h)(G:h.Ns mainGlobals mg)(hfa:mg "law"=some (.ref fa))(ZZ:Fs K mg aJ aD aF aG aI aE aB aH aA aO aM aP aK aL a_MONTH_LASTS a_BOUNDS a_WORDS a_BOUNDS_0 a_BOUNDS_1 a_BOUNDS_3 t_ROUND_DAYS t_ROUND_YEARS t_LONG_PLACE t_DAY_MINUTES t_HOUR_MINUTES t_FIGURES t_MOST_STRIDE t_MOST_SIGNS t_MOST_ITEMS t_SATURDAY t_SUNDAY t_MOST_BACK t_MOST_DAY t_SUNDAY_TOO t_MOST_NTH t_MOST_MARKS t_ALL_WEEKDAYS t_LONG_LAST t_SHORT_YEAR t_MINUTE t_HOUR t_DAY t_MONTH t_WEEKDAY t_MOST_ROW_SIGNS t_NO_PLACE t_MOST_MONTHS t_MOST_DAYS)
  (a:PySem.W.nsIn K mainGlobals "law"=some (some (.ref f))) (lk:K.lookup f=some ⟨oc,od,.func (PySem.W.fnOf "law" "law" (aa7 am2) (aaU am2) (aaC am2) .none kV dc pm an cd ct),sl⟩) (c:PySem.W.codeIn K cd "law"=true) (k:PySem.W.keepIn K (.ref f)=true):
  ∃fd:FuncData,(∀(s:Shared) (v:Value),BindsTo s fd ⟨[v],[]⟩ [("_law_script",v)])/\∀base:Heap,K.In base->base.Ns mainGlobals mg->FnOk l.prog w K mg base CX0 13 fa fd ["_law_script"] (apR K aK aL):=by
 cases hfa.symm.trans (PySem.W.mg_of X G a)
 exact⟨_,fun s v=>.of_eq rfl,fun base _ _=>aFH ZZ (apT (st:=am2) lk c k)⟩
theorem walk{l:PySem.W.OpenLaw}{q:Program}{loose:List Str}{XP:(Str->Option Value)->Heap->Prop}{YP:World->Heap->Prop}{d:DefRec}{K:Params->FG}{tN bm:Addr}(hn:l.most=some 63)(hdf:d.params.defaults=[])
  (hY:∀(w:World) (h:Heap),YP w h->(K w.params).In h)
  (hTb:∀(w:World) (h:Heap) (mean:ExcName->Option Value) (mg mb:Str->Option Value),(K w.params).In h->Top q (PySem.W.looseW q loose) mean mg mb h->∀b∈[tN],(isCodeTable h b/\h.get? b=some (PySem.W.tabObj #[]))/\(K w.params).lookup b=none)
  (hBm:∀(w:World) (h:Heap) (mg:Str->Option Value),(K w.params).In h->h.Ns mainGlobals mg->mg "__builtins__"=some (.ref bm)/\(K w.params).lookup bm=none)
  (F:∀(w:World) (mg:Str->Option Value) (fa:Addr) (h:Heap),(K w.params).In h->h.Ns mainGlobals mg->mg d.name=some (.ref fa)->
   ∃fd:FuncData,(∀(s:Shared) (u:Value),BindsTo s fd ⟨[u],[]⟩ [("_law_script",u)])/\∀base:Heap,(K w.params).In base->base.Ns mainGlobals mg->FnOk l.prog w (K w.params) mg base CX0 13 fa fd ["_law_script"] (apR (K w.params) tN bm)):
  PySem.W.WalkO q loose XP YP l.row.toRowW d [] (fun f vs=>PySem.call f vs):=
 L2.walk_ofT (n:=63) (k:=13) (x:="_law_script") (tabs:=fun _=>[tN]) (sp:=fun w=>apR (K w.params) tN bm) hn (by decide) hdf ⟨rfl,by decide,by decide⟩ hY hTb hBm F fun _ _ a ns hl hO hS=>⟨a,ns,rfl,hS,hl,⟨.inl (hO.1 _ bX),hO.2.2⟩,fun _=>rfl⟩
end K55
open PySem PySem.W PyProof.Rows L2
set_option maxRecDepth 100000 in
set_option maxHeartbeats 0 in
theorem PySem.Challenge.cw_fivefields_k55_papers_of_any_kind_holds : PySem.Challenge.rw_fivefields_k55_papers_of_any_kind.Holds := by
 w_on;refine holds_law Hd.ws fun said=>?_;refine Hd.lst said ?hw ?hc;(case hw=>w_witness2)
 k_fill
 refine K55.walk (l:=PySem.Challenge.rw_fivefields_k55_papers_of_any_kind) (tN:=335) (bm:=4) rfl Hd.h4 (fun w h Y=>PySem.W.kIn_of Y) Hd.tb Hd.tbm ?F
 case F=>
  intro w mg fa h KX G hmg
  rw[Hd.h5] at hmg
  refine' K55.all_mk (aP:=339) (aK:=335) (aL:=4) KX G hmg ⟨
   ⟨PySem.W.mg_of KX G ?_,⟨?_,?_,?_,?_⟩,?_,?_⟩,
   ?_,
   ⟨PySem.W.mg_of KX G ?_,⟨?_,?_,?_,?_⟩,?_,?_⟩,
   ?_,
   ⟨PySem.W.mg_of KX G ?_,⟨?_,?_,?_,?_⟩,?_,?_⟩,
   ?_,
   ⟨PySem.W.mg_of KX G ?_,⟨?_,?_,?_,?_⟩,?_,?_⟩,
   ?_,
   ⟨PySem.W.mg_of KX G ?_,⟨?_,?_,?_,?_⟩,?_,?_⟩,
   ?_,
   ⟨PySem.W.mg_of KX G ?_,⟨?_,?_,?_,?_⟩,?_,?_⟩,
   ?_,
   ⟨PySem.W.mg_of KX G ?_,⟨?_,?_,?_,?_⟩,?_,?_⟩,
   ?_,
   ?_,
   ⟨PySem.W.mg_of KX G ?_,⟨?_,?_,?_,?_⟩,?_,?_⟩,
   ?_,
   ⟨PySem.W.mg_of KX G ?_,⟨?_,?_,?_,?_⟩,?_,?_⟩,
   ?_,
   ?_,
   ?_,
   ?_,
   ?_,
   ?_,
   PySem.W.mg_of KX G ?_,
   PySem.W.mg_of KX G ?_,
   PySem.W.mg_of KX G ?_,
   K55.q_MONTH_LASTS ?_,
   PySem.W.mg_of KX G ?_,
   PySem.W.mg_of KX G ?_,
   PySem.W.mg_of KX G ?_,
   PySem.W.mg_of KX G ?_,
   PySem.W.mg_of KX G ?_,
   K55.mg_tx (x:="0123456789") KX G (by decide +kernel) ?_,
   PySem.W.mg_of KX G ?_,
   PySem.W.mg_of KX G ?_,
   PySem.W.mg_of KX G ?_,
   PySem.W.mg_of KX G ?_,
   PySem.W.mg_of KX G ?_,
   PySem.W.mg_of KX G ?_,
   PySem.W.mg_of KX G ?_,
   PySem.W.mg_of KX G ?_,
   PySem.W.mg_of KX G ?_,
   PySem.W.mg_of KX G ?_,
   PySem.W.mg_of KX G ?_,
   PySem.W.mg_of KX G ?_,
   PySem.W.mg_of KX G ?_,
   PySem.W.mg_of KX G ?_,
   PySem.W.mg_of KX G ?_,
   PySem.W.mg_of KX G ?_,
   PySem.W.mg_of KX G ?_,
   PySem.W.mg_of KX G ?_,
   PySem.W.mg_of KX G ?_,
   K55.q_BOUNDS ?_,
   K55.q_BOUNDS_0 ?_,
   K55.q_BOUNDS_1 ?_,
   K55.q_BOUNDS_3 ?_,
   PySem.W.mg_of KX G ?_,
   PySem.W.mg_of KX G ?_,
   PySem.W.mg_of KX G ?_,
   PySem.W.mg_of KX G ?_,
   K55.q_WORDS (x0:="month") (by decide +kernel) (x1:="day") (by decide +kernel) (x2:="hour") (by decide +kernel) (x3:="minute") (by decide +kernel) ?_,
   PySem.W.mg_of KX G ?_,
   aA2 KX G ?_ ?_ ?_ ?_,
   PySem.W.mg_none_of KX G ?_,
   PySem.W.mg_none_of KX G ?_,
   PySem.W.mg_none_of KX G ?_,
   PySem.W.mg_none_of KX G ?_,
   PySem.W.mg_none_of KX G ?_,
   PySem.W.mg_none_of KX G ?_,
   PySem.W.mg_none_of KX G ?_,
   PySem.W.mg_none_of KX G ?_,
   PySem.W.mg_none_of KX G ?_,
   PySem.W.mg_none_of KX G ?_,
   PySem.W.mg_none_of KX G ?_,
   PySem.W.mg_none_of KX G ?_,
   PySem.W.mg_none_of KX G ?_,
   PySem.W.mg_none_of KX G ?_,
   aaK KX G ?_ ?_ ?_ ?_ ?_,
   aaK KX G ?_ ?_ ?_ ?_ ?_,
   aaK KX G ?_ ?_ ?_ ?_ ?_,
   aaK KX G ?_ ?_ ?_ ?_ ?_,
   aaK KX G ?_ ?_ ?_ ?_ ?_,
   aaK KX G ?_ ?_ ?_ ?_ ?_,
   aaK KX G ?_ ?_ ?_ ?_ ?_,
   aaK KX G ?_ ?_ ?_ ?_ ?_,
   aaK KX G ?_ ?_ ?_ ?_ ?_,
   aaK KX G ?_ ?_ ?_ ?_ ?_,
   aaK KX G ?_ ?_ ?_ ?_ ?_,
   aaK KX G ?_ ?_ ?_ ?_ ?_,
   aaK KX G ?_ ?_ ?_ ?_ ?_,
   aaK KX G ?_ ?_ ?_ ?_ ?_,
   aaK KX G ?_ ?_ ?_ ?_ ?_,
   aaK KX G ?_ ?_ ?_ ?_ ?_,
   aaK KX G ?_ ?_ ?_ ?_ ?_,
   aaK KX G ?_ ?_ ?_ ?_ ?_,
   aaK KX G ?_ ?_ ?_ ?_ ?_,
   aaK KX G ?_ ?_ ?_ ?_ ?_,
   aaK KX G ?_ ?_ ?_ ?_ ?_,
   aaK KX G ?_ ?_ ?_ ?_ ?_,
   aaK KX G ?_ ?_ ?_ ?_ ?_,
   aaK KX G ?_ ?_ ?_ ?_ ?_,
   aaK KX G ?_ ?_ ?_ ?_ ?_,
   aaK KX G ?_ ?_ ?_ ?_ ?_,
   aaK KX G ?_ ?_ ?_ ?_ ?_,
   aaK KX G ?_ ?_ ?_ ?_ ?_,
   abF ?_ ?_ ?_ ?_ ?_ ?_,
   abF ?_ ?_ ?_ ?_ ?_ ?_,
   abF ?_ ?_ ?_ ?_ ?_ ?_,
   K55.md_Last___init__ ?_ ?_ ?_ ?_ ?_ ?_,
   abF ?_ ?_ ?_ ?_ ?_ ?_,
   abF ?_ ?_ ?_ ?_ ?_ ?_,
   abF ?_ ?_ ?_ ?_ ?_ ?_,
   abF ?_ ?_ ?_ ?_ ?_ ?_,
   abF ?_ ?_ ?_ ?_ ?_ ?_,
   abF ?_ ?_ ?_ ?_ ?_ ?_,
   abF ?_ ?_ ?_ ?_ ?_ ?_,
   abF ?_ ?_ ?_ ?_ ?_ ?_,
   abF ?_ ?_ ?_ ?_ ?_ ?_,
   abF ?_ ?_ ?_ ?_ ?_ ?_,
   aaK KX G ?_ ?_ ?_ ?_ ?_,
   aaK KX G ?_ ?_ ?_ ?_ ?_,
   aaK KX G ?_ ?_ ?_ ?_ ?_,
   aaK KX G ?_ ?_ ?_ ?_ ?_,
   aaK KX G ?_ ?_ ?_ ?_ ?_,
   aaK KX G ?_ ?_ ?_ ?_ ?_,
   aaK KX G ?_ ?_ ?_ ?_ ?_,
   aaK KX G ?_ ?_ ?_ ?_ ?_,
   aaK KX G ?_ ?_ ?_ ?_ ?_,
   aaK KX G ?_ ?_ ?_ ?_ ?_,
   abF ?_ ?_ ?_ ?_ ?_ ?_,
   abF ?_ ?_ ?_ ?_ ?_ ?_,
   aaK KX G ?_ ?_ ?_ ?_ ?_,
   aaK KX G ?_ ?_ ?_ ?_ ?_,
   aaK KX G ?_ ?_ ?_ ?_ ?_,
   abF ?_ ?_ ?_ ?_ ?_ ?_,
   abF ?_ ?_ ?_ ?_ ?_ ?_,
   abF ?_ ?_ ?_ ?_ ?_ ?_,
   abF ?_ ?_ ?_ ?_ ?_ ?_,
   aaK KX G ?_ ?_ ?_ ?_ ?_,
   aaK KX G ?_ ?_ ?_ ?_ ?_,
   aaK KX G ?_ ?_ ?_ ?_ ?_,
   aaK KX G ?_ ?_ ?_ ?_ ?_,
   aaK KX G ?_ ?_ ?_ ?_ ?_,
   aaK KX G ?_ ?_ ?_ ?_ ?_,
   aaK KX G ?_ ?_ ?_ ?_ ?_,
   aaK KX G ?_ ?_ ?_ ?_ ?_,
   abF ?_ ?_ ?_ ?_ ?_ ?_,
   aaK KX G ?_ ?_ ?_ ?_ ?_,
   aaK KX G ?_ ?_ ?_ ?_ ?_,
   aDQ KX G ?_ ?_ ?_ ?_ ?_,
   aaK KX G ?_ ?_ ?_ ?_ ?_,
   aaK KX G ?_ ?_ ?_ ?_ ?_,
   aaK KX G ?_ ?_ ?_ ?_ ?_,
   aaK KX G ?_ ?_ ?_ ?_ ?_,
   aaK KX G ?_ ?_ ?_ ?_ ?_,
   aaK KX G ?_ ?_ ?_ ?_ ?_,
   aaK KX G ?_ ?_ ?_ ?_ ?_,
   aaK KX G ?_ ?_ ?_ ?_ ?_,
   aaK KX G ?_ ?_ ?_ ?_ ?_,
   aaK KX G ?_ ?_ ?_ ?_ ?_,
   aaK KX G ?_ ?_ ?_ ?_ ?_,
   aaK KX G ?_ ?_ ?_ ?_ ?_,
   aaK KX G ?_ ?_ ?_ ?_ ?_,
   aaK KX G ?_ ?_ ?_ ?_ ?_,
   aaK KX G ?_ ?_ ?_ ?_ ?_,
   aaK KX G ?_ ?_ ?_ ?_ ?_,
   aaK KX G ?_ ?_ ?_ ?_ ?_,
   aaK KX G ?_ ?_ ?_ ?_ ?_,
   aaK KX G ?_ ?_ ?_ ?_ ?_⟩ ?_ ?_ ?_ ?_
  all_goals try (intro _ _ _ _ _ _ us hl;first | (obtain⟨rfl⟩:=len0 hl;rfl) | (obtain⟨_,rfl⟩:=aHA hl;rfl) | (obtain⟨_,_,rfl⟩:=aMJ hl;rfl) | (obtain⟨_,_,_,rfl⟩:=aMG hl;rfl) | (obtain⟨_,_,_,_,rfl⟩:=aIF hl;rfl) | (obtain⟨_,_,_,_,_,rfl⟩:=len5 hl;rfl))
  all_goals try decide
  all_goals try (as_aux_lemma=>k_is)
  all_goals try decide
