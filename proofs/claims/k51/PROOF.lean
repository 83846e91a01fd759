import PyProof.Rows.All
import Wide.All
import OpenK.AllK
import Wide.FinOn
import KE.KLam
import Lean
import PyProof.EqAt
import PyProof.EqKinds
import PyProof.TupleCall
import PySem.Challenge.RW_fivefields_k51_next_walked
local macro_rules
  | `(tactic| omega) => `(tactic| lia)
set_option maxHeartbeats 4000000
set_option compiler.extract_closed false
namespace Hd
open PySem PySem.W PySem.Calls PyProof.Rows
section
set_option maxHeartbeats 0
set_option maxRecDepth 100000
set_option linter.all false
theorem ws:OpenLaw.wellSaid PySem.Challenge.rw_fivefields_k51_next_walked=true:=by
 delta OpenLaw.wellSaid
 with_reducible refine look_both (look_both (look_both (look_both (look_both (look_both (look_both (look_both (look_both (look_both (look_both (look_both (look_both (look_both (look_both (look_both (look_both (look_both ?_ ?_) ?_) ?_) ?_) ?_) ?_) ?_) ?_) ?_) ?_) ?_) ?_) ?_) ?_) ?_) ?_) ?_) ?_
 ·delta OpenRow.wellSaid
  with_reducible refine look_both (look_both ?_ ?_) ?_
  ·delta OpenRow.partSaid
   with_reducible refine look_both (look_both (look_both (look_both (look_both (look_both (look_both (look_both (look_both (look_both (look_both (look_both ?_ ?_) ?_) ?_) ?_) ?_) ?_) ?_) ?_) ?_) ?_) ?_) ?_
   ·delta looksOpen
    with_reducible refine look_both (look_both (look_both (look_both (look_both ?_ ?_) ?_) ?_) ?_) ?_
    all_goals decide +kernel
   all_goals decide +kernel
  all_goals decide +kernel
 all_goals decide +kernel
noncomputable section
noncomputable abbrev pw:Program:=PySem.Challenge.pw_fivefields_k51_next_walked
noncomputable abbrev bi:List Stmt:=behindTheImports pw
noncomputable def nth:List Stmt->Nat->Stmt
 |s::_,0=>s
 |_::r,n+1=>nth r n
 |[],_=>.Pass default
noncomputable def tp(i:Nat):Stmt:=nth pw.main.body i
noncomputable def bd:Stmt->List Stmt
 |.FunctionDef _ _ b _ _ _ _ _ _ _=>b
 |.ClassDef _ _ _ b _ _ _ _ _ _ _=>b
 |_=>[]
noncomputable def ag:Stmt->Arguments
 |.FunctionDef _ a _ _ _ _ _ _ _ _=>a
 |_=>⟨[],[],none,[],[],none,[]⟩
noncomputable def sc:Stmt->Scope
 |.FunctionDef _ _ _ _ _ _ s _ _ _=>s
 |.ClassDef _ _ _ _ _ _ s _ _ _ _=>s
 |_=>pw.main.scope
noncomputable def r(a:Addr):Value:=.ref a
noncomputable def i(n:Int):Value:=.int n 0
noncomputable def de(P:Params)(k:Str)(t:Tok)(v:Value):DictEntry:=⟨PyData.keyHash P k,.str k t,v⟩
noncomputable def tu(l:List Value):Obj:=⟨.type "tuple",none,.seq l.toArray 0,#[]⟩
noncomputable def di(l:List DictEntry)(n:Nat):Obj:=⟨.type "dict",none,.dict l.toArray n,#[]⟩
noncomputable def co(l:List Value):Obj:=⟨.type "code",none,.fields l.toArray,#[]⟩
noncomputable def fd(l:List Value):Obj:=⟨.none,none,.fields l.toArray,#[]⟩
noncomputable def lf(x:Obj):BT:=.node x .nil .nil
noncomputable abbrev nd:Obj->BT->BT->BT:=BT.node
noncomputable def sf(t:Tok):Value:=.str "/claim/cut.py" t
noncomputable def fz(n q:Str)(s:Stmt):Obj:=⟨.none,none,.func ⟨n,q,ag s,.stmts (bd s),sc s,0,[],.none,.none,.none,.none,none,.none,.none,0⟩,#[]⟩
noncomputable def fn(n q:Str)(s:Stmt)(g:Addr)(c:List (Str×Addr))(d k o m:Value)(a:Option Addr)(x y:Value)(b:Addr):Obj:=⟨.type "function",none,.func ⟨n,q,ag s,.stmts (bd s),sc s,g,c,d,k,o,m,a,x,y,b⟩,#[]⟩
noncomputable def ib(s:Stmt)(i:Nat):Stmt:=nth (bd s) i
noncomputable def ev:Env:={scope:=pw.main.scope,locals:=mainNs,globals:=mainNs,cells:=[],code:=(r 13),frame:=some 14}
noncomputable def cd:Code:=.body bi ev
noncomputable abbrev an:Option Value:=(some (r 6))
noncomputable abbrev bk:List Frame:=[topFrame ⟨0,0,0,0⟩]
def cO(n q:Str)(t l c x a u:Nat):Obj:=co [.str n t,.str q (t+1),sf (t+2),i (Int.ofNat l),i (Int.ofNat c),i 0,i 0,i (Int.ofNat x),r a,.bool true,i 181,r (a+1),.none,r (a+2),r (a+3),r (a+4),i (Int.ofNat u),i (Int.ofNat l),sf (u+1)]
def cP(n:Str)(t l c x a u:Nat):Obj:=cO n n t l c x a u
def cK(n q:Str)(t l a u:Nat):Obj:=co [.str n t,.str q (t+1),sf (t+2),i (Int.ofNat l),i 0,i 0,i 0,i 0,r a,.bool false,i 181,r (a+1),.none,.none,.none,.none,i (Int.ofNat u),i (Int.ofNat l),sf (u+1)]
def fQ(n q:Str)(s:Stmt)(m:Value)(a:Addr):Obj:=fn n q s 3 [] .none .none .none m none (r a) .none 0
def fP(n:Str)(k:Nat)(m:Value)(a:Addr):Obj:=fQ n n (tp k) m a
def fY(n:Str)(k:Nat):Obj:=fz n n (tp k)
def fS(n q:Str)(s z:Stmt)(m:Value)(a:Addr):Obj:=⟨(.type "function"),none,(.func ⟨n,q,ag s,.stmts (bd s),sc z,3,[],.none,.none,.none,m,none,r a,.none,0⟩),#[]⟩
def fT(n q:Str)(s z:Stmt):Obj:=⟨.none,none,(.func ⟨n,q,ag s,.stmts (bd s),sc z,0,[],.none,.none,.none,.none,none,.none,.none,0⟩),#[]⟩
def ss:List Str->Nat->List Value
 |[],_=>[]
 |x::l,n=>.str x n::ss l (n+1)
def tS(n:Nat)(l:List Str):Obj:=tu (ss l n)
def dr(P:Params)(k:Str)(t:Tok)(a:Addr):DictEntry:=de P k t (r a)
def f3(k:Nat):List (Nat×Nat)->List Value
 |[]=>[]
 |(a,b)::l=>i (Int.ofNat a)::i (Int.ofNat k)::r b::f3 k l
def fD(k:Nat)(l:List (Nat×Nat)):Obj:=fd (f3 k l)
def fr(a b:Addr)(m:Value):Obj:=⟨(.type "frame"),none,.plain,#[some (r a),some (r 3),some (r b),none,some m,none,some (r 0)]⟩
def bm(s:String)(v:Value):Obj:=⟨(.type "builtin_function_or_method"),none,(.fields #[.builtin s,v]),#[]⟩
def sp2(l:List Obj):List Obj×List Obj:=List.rec ([],[]) (fun x _ p=>(x::p.2,p.1)) l
def brn:Nat->List Obj->BT
 |0,_=>.nil
 |_+1,[]=>.nil
 |n+1,x::l=>.node x (brn n (sp2 l).1) (brn n (sp2 l).2)
def su(a b c:Addr):Obj:=⟨(.type "super"),none,(.fields #[r a,r b,r c]),#[]⟩
def mv0:Value:=.str "fivefields.marks" 691
def mv1:Value:=.str "fivefields.errors" 194
def mv2:Value:=.str "fivefields.days" 289
def mv3:Value:=.str "fivefields.months" 410
def mv4:Value:=.str "fivefields.ranges" 453
def mv5:Value:=.str "fivefields.papers" 505
def mv6:Value:=.str "fivefields.leaps" 550
def mv7:Value:=.str "fivefields.fields" 605
def mv8:Value:=.str "law_fivefields_k51_next_walked" 1310
def mv9:Value:=.str "fivefields.rows" 1134
def o0:=tu []
def o1:=fd []
def o2:=cK "<module>" "<module>" 182 1 11 185
def o3:Obj:=⟨(.type "frame"),none,.plain,#[(some (r 13)),(some (r 3)),(some (r 3)),none,(some (.str "__main__" 164)),none,(some (r 0))]⟩
def hA(P:Params):Heap:=⟨⟨[(boot_o_0 P),(boot_o_1 P),(boot_o_2 P),(boot_o_3 P),(boot_o_4 P),(boot_o_5 P),(boot_o_6 P),(boot_o_7 P),(boot_o_8 P),(boot_o_9 P),(boot_o_10 P),o0,o1,o2,o3]⟩,⟨[],[],[],0,[],[],false,#[],[],0,false,false,false,0,[2000,10,10],false,0,true,[],[],0,false⟩⟩
def sA(w:World)(os:OsState):Shared:=⟨hA w.params,#[],⟨0,0,0,0⟩,187,os⟩
theorem pre(w:World)(os:OsState):
  topGo treeTable pw w 11 an 12 ⟨boot_heap w.params,⟨[]⟩,boot_drawn,boot_toks,os⟩ (topStub pw) =
  some (sA w os,⟨denote treeTable cd,cd,⟨0,0,0,0⟩,bk⟩):=by kernel_rfl
def t0(P:Params):BT:=brn 5 [(boot_o_0 P),(boot_o_1 P),(boot_o_2 P),(boot_o_3 P),(boot_o_4 P),(boot_o_5 P),(boot_o_6 P),(boot_o_7 P),(boot_o_8 P),(boot_o_9 P),(boot_o_10 P),o0,o1,o2,o3]
def s0(w:World)(os:OsState):SharedT:=⟨t0 w.params,15,⟨[],[],[],0,[],[],false,#[],[],0,false,false,false,0,[2000,10,10],false,0,true,[],[],0,false⟩,#[],⟨0,0,0,0⟩,187,os⟩
theorem blk(w:World)(os:OsState):
  segRun treeTable pw w 11 an 1 1 (sA w os) (blockOf bi ev cd ⟨0,0,0,0⟩ bk) =
  some (.next,(s0 w os).abs,cd,⟨0,0,0,0⟩):=by kernel_rfl
def eo4(P:Params):List DictEntry:=[de P "__doc__" 166 .none,de P "__package__" 167 .none,de P "__loader__" 168 (.builtin "__main__.__loader__#opaque"),de P "__spec__" 169 .none,dr P "__annotations__" 170 6,dr P "__builtins__" 171 4,de P "__file__" 173 (sf 172),de P "__cached__" 174 .none,dr P "_wall" 193 21,dr P "FieldError" 213 31,dr P "NoDay" 229 44,dr P "NoField" 254 63,dr P "NoRow" 279 82,dr P "is_whole" 288 91,dr P "MONTH_LASTS" 303 92,de P "ROUND_YEARS" 305 (.int 400 304),de P "ROUND_DAYS" 307 (.int 146097 306),dr P "is_long" 314 99,dr P "multiples_before" 322 106,dr P "days_before" 330 113,dr P "last_of" 338 120,dr P "is_date" 347 127,dr P "day_of" 353 132,dr P "year_of" 361 139,dr P "date_of" 371 146,dr P "weekday" 378 153,de P "FIGURES" 382 (.str "0123456789" 381),dr P "all_figures" 388 158,dr P "is_written" 395 165,de P "DAY_MINUTES" 399 (.int 1440 398),de P "HOUR_MINUTES" 401 (.int 60 400),dr P "parted" 409 172,de P "LONG_PLACE" 413 (.int 12 412),de P "LONG_LAST" 415 (.int 29 414),de P "SHORT_YEAR" 417 (.int 1 416),dr P "kind_from" 427 179,dr P "kind_of" 435 186,dr P "month_at" 444 193,dr P "next_month" 452 200,dr P "has" 462 207,dr P "lowest" 469 214,dr P "starts_of" 475 219,dr P "end_from" 484 226,dr P "ranges_of" 490 231,dr P "shown_range" 498 238,dr P "shown_ranges" 504 243,dr P "add_stretch" 516 250,dr P "last_shut_day" 527 257,dr P "shut_end" 536 264,dr P "paper_of" 549 271,de P "MOST_MONTHS" 553 (.int 492 552),dr P "minutes_on" 563 278,dr P "minutes_by" 572 285,dr P "month_of" 580 292,dr P "first_at" 594 299,dr P "next_from" 604 306,de P "MOST_SIGNS" 608 (.int 300 607),de P "MOST_ITEMS" 610 (.int 40 609),de P "MOST_STRIDE" 612 (.int 99 611),dr P "mask_of" 621 313,dr P "numbers_in" 627 318,dr P "run_mask" 636 325,dr P "read_number" 646 332,dr P "read_run" 652 337,dr P "read_strided" 665 344,dr P "read_item" 676 351,dr P "read_field" 690 358,de P "MOST_MARKS" 694 (.int 20 693),de P "MOST_DAY" 696 (.int 31 695),de P "MOST_BACK" 698 (.int 30 697),de P "MOST_NTH" 700 (.int 5 699),de P "SUNDAY" 702 (.int 0 701),de P "SATURDAY" 704 (.int 6 703),de P "SUNDAY_TOO" 706 (.int 7 705),de P "ALL_WEEKDAYS" 708 (.int 127 707),dr P "weekday_at" 716 365,dr P "all_days" 723 372,dr P "nearest_work" 733 379,dr P "first_one" 741 386,dr P "Mark" 777 410,dr P "Numbers" 818 445,dr P "Last" 860 479,dr P "Near" 901 512,dr P "LastWork" 933 538,dr P "Weekdays" 976 571,dr P "Nth" 1020 604,dr P "LastOne" 1061 637]
def o4(P:Params):=di (de P "__name__" 165 mv0::eo4 P) 88
def o5:=fD 0 [(1,20),(5,27),(7,40),(9,52),(13,71),(18,90),(24,98),(26,105),(28,112),(31,119),(35,126),(39,131),(44,138),(49,145),(57,152),(61,157),(63,164),(68,171),(75,178),(78,185),(80,192),(86,199),(91,206),(93,213),(95,218),(98,225),(103,230),(105,237),(109,242),(112,249),(117,256),(124,263),(130,270),(141,277),(146,284),(150,291),(153,298),(164,305),(173,312),(178,317),(180,324),(182,331),(189,336),(196,343),(203,350),(211,357),(233,364),(235,371),(237,378),(244,385),(246,392),(253,420),(263,453),(277,487),(289,520),(296,546),(309,579),(323,612)]
def o6:=tS 190 ["k"]
def o7:=fY "_wall" 0
def o8:=cP "_wall" 187 1 1 3 15 191
def o9:=fn "_wall" "_wall" (tp 0) 3 [] .none .none .none (.str "__main__" 164) none (r 20) .none 0
def o10:=tu [(.type "ValueError")]
def o11:=bm "type.__prepare__" (.type "type")
def o12(P:Params):=di [de P "__module__" 203 mv1,de P "__qualname__" 205 (.str "FieldError" 204),de P "__firstlineno__" 207 (.int 5 206),dr P "__static_attributes__" 208 29] 4
def o13:=cK "FieldError" "FieldError" 198 5 25 201
def o14:=fr 27 24 mv1
def o15(P:Params):=di [de P "__module__" 203 mv1,de P "__firstlineno__" 207 (.int 5 206),dr P "__static_attributes__" 208 29,dr P "__weakref__" 210 32,de P "__doc__" 211 .none] 3
def o16:Obj:=⟨(.type "type"),none,(.cls ⟨"FieldError",[(.type "ValueError")],[(r 31),(.type "ValueError"),(.type "Exception"),(.type "BaseException"),(.type "object")],30,"FieldError",true,[],[(r 44),(r 63),(r 82)],false,none,false⟩),#[(some (r 22)),none,(some (.str "FieldError" 196)),(some (.str "FieldError" 204)),(some (.builtin "ValueError.__new__")),(some (.bool true))]⟩
def o17:Obj:=⟨(.type "getset_descriptor"),none,(.fields #[(.str "__weakref__" 209),(r 31),(.builtin "ExceptionGroup.__weakref__"),.none]),#[]⟩
def o18:=su 31 31 31
def o19:=bm "object.__init_subclass__" (r 31)
def o20:=tu [(r 31)]
def o21(P:Params):=di [de P "__module__" 221 mv1,de P "__qualname__" 223 (.str "NoDay" 222),de P "__firstlineno__" 225 (.int 7 224),dr P "__static_attributes__" 226 42] 4
def o22:=cK "NoDay" "NoDay" 216 7 38 219
def o23:=fr 40 37 mv1
def o24(P:Params):=di [de P "__module__" 221 mv1,de P "__firstlineno__" 225 (.int 7 224),dr P "__static_attributes__" 226 42,de P "__doc__" 227 .none] 2
def o25:Obj:=⟨(.type "type"),none,(.cls ⟨"NoDay",[(r 31)],[(r 44),(r 31),(.type "ValueError"),(.type "Exception"),(.type "BaseException"),(.type "object")],43,"NoDay",true,[],[],false,none,false⟩),#[(some (r 35)),none,(some (.str "NoDay" 214)),(some (.str "NoDay" 222)),(some (.builtin "ValueError.__new__")),(some (.bool true))]⟩
def o26:=su 44 44 44
def o27:=bm "object.__init_subclass__" (r 44)
def o28(P:Params):=di [de P "__module__" 237 mv1,de P "__qualname__" 239 (.str "NoField" 238),de P "__firstlineno__" 241 (.int 9 240),dr P "__init__" 249 60,dr P "__static_attributes__" 251 61] 5
def o29:=fD 4 [(11,59)]
def o30:=cK "NoField" "NoField" 232 9 50 235
def o31:=fr 52 49 mv1
def o32:=tS 245 ["self","at"]
def o33:=fz "__init__" "NoField.__init__" (ib (tp 4) 0)
def o34:=cO "__init__" "NoField.__init__" 242 11 2 3 54 247
def o35:=fQ "__init__" "NoField.__init__" (ib (tp 4) 0) mv1 59
def o36:=tS 250 ["at"]
def o37(P:Params):=di [de P "__module__" 237 mv1,de P "__firstlineno__" 241 (.int 9 240),dr P "__init__" 249 60,dr P "__static_attributes__" 251 61,de P "__doc__" 252 .none] 2
def o38:Obj:=⟨(.type "type"),none,(.cls ⟨"NoField",[(r 31)],[(r 63),(r 31),(.type "ValueError"),(.type "Exception"),(.type "BaseException"),(.type "object")],62,"NoField",true,[],[],false,none,false⟩),#[(some (r 47)),none,(some (.str "NoField" 230)),(some (.str "NoField" 238)),(some (.builtin "ValueError.__new__")),(some (.bool true))]⟩
def o39:=su 63 63 63
def o40:=bm "object.__init_subclass__" (r 63)
def o41(P:Params):=di [de P "__module__" 262 mv1,de P "__qualname__" 264 (.str "NoRow" 263),de P "__firstlineno__" 266 (.int 13 265),dr P "__init__" 274 79,dr P "__static_attributes__" 276 80] 5
def o42:=fD 4 [(15,78)]
def o43:=cK "NoRow" "NoRow" 257 13 69 260
def o44:=fr 71 68 mv1
def o45:=tS 270 ["self","place"]
def o46:=fz "__init__" "NoRow.__init__" (ib (tp 5) 0)
def o47:=cO "__init__" "NoRow.__init__" 267 15 2 3 73 272
def o48:=fQ "__init__" "NoRow.__init__" (ib (tp 5) 0) mv1 78
def o49:=tS 275 ["place"]
def o50(P:Params):=di [de P "__module__" 262 mv1,de P "__firstlineno__" 266 (.int 13 265),dr P "__init__" 274 79,dr P "__static_attributes__" 276 80,de P "__doc__" 277 .none] 2
def o51:Obj:=⟨(.type "type"),none,(.cls ⟨"NoRow",[(r 31)],[(r 82),(r 31),(.type "ValueError"),(.type "Exception"),(.type "BaseException"),(.type "object")],81,"NoRow",true,[],[],false,none,false⟩),#[(some (r 66)),none,(some (.str "NoRow" 255)),(some (.str "NoRow" 263)),(some (.builtin "ValueError.__new__")),(some (.bool true))]⟩
def o52:=su 82 82 82
def o53:=bm "object.__init_subclass__" (r 82)
def o54:=tS 285 ["thing"]
def o55:=fY "is_whole" 7
def o56:=cP "is_whole" 282 18 1 3 85 286
def o57:=fn "is_whole" "is_whole" (tp 7) 3 [] .none .none .none (.str "fivefields.wholes" 280) none (r 90) .none 0
def o58:=tu [(.int 31 291),(.int 28 292),(.int 31 293),(.int 30 294),(.int 31 295),(.int 30 296),(.int 31 297),(.int 31 298),(.int 30 299),(.int 31 300),(.int 30 301),(.int 31 302)]
def o59:=tS 311 ["year"]
def o60:=fY "is_long" 12
def o61:=cP "is_long" 308 24 1 3 93 312
def o62:=fP "is_long" 12 mv2 98
def o63:=tS 318 ["year","step"]
def o64:=fY "multiples_before" 13
def o65:=cP "multiples_before" 315 26 2 3 100 320
def o66:=fP "multiples_before" 13 mv2 105
def o67:=tS 326 ["year","longs"]
def o68:=fY "days_before" 14
def o69:=cP "days_before" 323 28 1 3 107 328
def o70:=fP "days_before" 14 mv2 112
def o71:=tS 334 ["year","month"]
def o72:=fY "last_of" 15
def o73:=cP "last_of" 331 31 2 3 114 336
def o74:=fP "last_of" 15 mv2 119
def o75:=tS 342 ["year","month","day"]
def o76:=fY "is_date" 16
def o77:=cP "is_date" 339 35 3 3 121 345
def o78:=fP "is_date" 16 mv2 126
def o79:=fY "day_of" 17
def o80:=co [(.str "day_of" 348),(.str "day_of" 349),(sf 350),(i 39),(i 3),(i 0),(i 0),(i 3),(r 128),(.bool true),(i 181),(r 129),.none,.none,.none,(r 130),(i 351),(i 39),(sf 352)]
def o81:=fP "day_of" 17 mv2 131
def o82:=tS 357 ["day","year"]
def o83:=fY "year_of" 18
def o84:=cP "year_of" 354 44 1 3 133 359
def o85:=fP "year_of" 18 mv2 138
def o86:=tS 365 ["day","year","month","rest"]
def o87:=fY "date_of" 19
def o88:=cP "date_of" 362 49 1 3 140 369
def o89:=fP "date_of" 19 mv2 145
def o90:=tS 375 ["day"]
def o91:=fY "weekday" 20
def o92:=cP "weekday" 372 57 1 3 147 376
def o93:=fP "weekday" 20 mv2 152
def o94:=fY "all_figures" 23
def o95:=co [(.str "all_figures" 383),(.str "all_figures" 384),(sf 385),(i 61),(i 1),(i 0),(i 0),(i 3),(r 154),(.bool true),(i 181),(r 155),.none,.none,.none,(r 156),(i 386),(i 61),(sf 387)]
def o96:=fn "all_figures" "all_figures" (tp 23) 3 [] .none .none .none (.str "fivefields.figures" 379) none (r 157) .none 0
def o97:=tS 392 ["text"]
def o98:=fY "is_written" 24
def o99:=cP "is_written" 389 63 1 3 159 393
def aT7:=fn "is_written" "is_written" (tp 24) 3 [] .none .none .none (.str "fivefields.figures" 379) none (r 164) .none 0
def aSM:=tS 405 ["moment","time"]
def aMX:=fY "parted" 28
def aMS:=cP "parted" 402 68 1 3 166 407
def aR5:=fn "parted" "parted" (tp 28) 3 [] .none .none .none (.str "fivefields.moments" 396) none (r 171) .none 0
def aR9:=tS 421 ["year","month","day","place"]
def aTU:=fY "kind_from" 33
def aNZ:=cP "kind_from" 418 75 3 3 173 425
def aLP:=fP "kind_from" 33 mv3 178
def aNE:=tS 431 ["year","month"]
def aVI:=fY "kind_of" 34
def aP0:=cP "kind_of" 428 78 2 3 180 433
def aLT:=fP "kind_of" 34 mv3 185
def aMY:=tS 439 ["kind","place","first"]
def aRA:=fY "month_at" 35
def aNH:=cP "month_at" 436 80 1 3 187 442
def aNV:=fP "month_at" 35 mv3 192
def aPH:=tS 448 ["year","month"]
def aP2:=fY "next_month" 36
def aPN:=cP "next_month" 445 86 2 3 194 450
def aLI:=fP "next_month" 36 mv3 199
def aTK:=tS 458 ["mask","number"]
def aN6:=fY "has" 38
def aUY:=cP "has" 455 91 2 3 201 460
def aLS:=fP "has" 38 mv4 206
def aNY:=tS 466 ["mask"]
def aRK:=fY "lowest" 39
def aRN:=cP "lowest" 463 93 1 3 208 467
def aR4:=fP "lowest" 39 mv4 213
def aQZ:=fY "starts_of" 40
def aLC:=co [(.str "starts_of" 470),(.str "starts_of" 471),(sf 472),(i 95),(i 1),(i 0),(i 0),(i 3),(r 215),(.bool true),(i 181),(r 216),.none,.none,.none,(r 217),(i 473),(i 95),(sf 474)]
def aP5:=fP "starts_of" 40 mv4 218
def aRF:=tS 479 ["mask","start","end"]
def aMF:=fY "end_from" 41
def aTB:=cP "end_from" 476 98 2 3 220 482
def aQI:=fP "end_from" 41 mv4 225
def aUW:=fY "ranges_of" 42
def aQD:=co [(.str "ranges_of" 485),(.str "ranges_of" 486),(sf 487),(i 103),(i 1),(i 0),(i 0),(i 3),(r 227),(.bool true),(i 181),(r 228),.none,.none,.none,(r 229),(i 488),(i 103),(sf 489)]
def aSK:=fP "ranges_of" 42 mv4 230
def aMA:=tS 494 ["first","last"]
def aQA:=fY "shown_range" 43
def aUM:=cP "shown_range" 491 105 2 3 232 496
def aRV:=fP "shown_range" 43 mv4 237
def aUS:=fY "shown_ranges" 44
def aLO:=co [(.str "shown_ranges" 499),(.str "shown_ranges" 500),(sf 501),(i 109),(i 1),(i 0),(i 0),(i 3),(r 239),(.bool true),(i 181),(r 240),.none,.none,.none,(r 241),(i 502),(i 109),(sf 503)]
def aLQ:=fP "shown_ranges" 44 mv4 242
def aNC:=tS 510 ["stretches","first","last","told"]
def aOJ:=fY "add_stretch" 46
def aO8:=cP "add_stretch" 507 112 4 3 244 514
def aRE:=fP "add_stretch" 46 mv5 249
def aPS:=tS 520 ["row","day","date","kind","later"]
def aOU:=fY "last_shut_day" 47
def aN1:=cP "last_shut_day" 517 117 2 3 251 525
def aL5:=fP "last_shut_day" 47 mv5 256
def aSY:=tS 531 ["row","moment","word"]
def aLU:=fY "shut_end" 48
def aRR:=cP "shut_end" 528 124 3 3 258 534
def aLB:=fP "shut_end" 48 mv5 263
def aQE:=tS 540 ["row","begin","end","stretches","moment","word","last"]
def aO6:=fY "paper_of" 49
def aSI:=cP "paper_of" 537 130 3 3 265 547
def aLX:=fP "paper_of" 49 mv5 270
def aLV:=tS 557 ["days","minutes","place","times"]
def aMN:=fY "minutes_on" 52
def aNO:=cP "minutes_on" 554 141 1 3 272 561
def aVJ:=fP "minutes_on" 52 mv6 277
def aPU:=tS 567 ["known","on_days","kind"]
def aQS:=fY "minutes_by" 53
def aLE:=cP "minutes_by" 564 146 3 3 279 570
def aPR:=fP "minutes_by" 53 mv6 284
def aT6:=tS 576 ["moment","date"]
def aP8:=fY "month_of" 54
def aSE:=cP "month_of" 573 150 1 3 286 578
def aSS:=fP "month_of" 54 mv6 291
def aM2:=tS 584 ["on_days","moment","month","known","turn","start","passed","rest"]
def aUZ:=fY "first_at" 55
def aM9:=cP "first_at" 581 153 2 3 293 592
def aTV:=fP "first_at" 55 mv6 298
def aLG:=tS 598 ["row","moment","found"]
def aQM:=tS 601 ["row"]
def aNW:=fY "next_from" 56
def aTN:=cP "next_from" 595 164 2 3 300 602
def aPF:=fP "next_from" 56 mv6 305
def aSH:=tS 616 ["numbers","mask","number"]
def aMH:=fY "mask_of" 61
def aNS:=cP "mask_of" 613 173 1 3 307 619
def aO2:=fP "mask_of" 61 mv7 312
def aO3:=fY "numbers_in" 62
def aQ2:=co [(.str "numbers_in" 622),(.str "numbers_in" 623),(sf 624),(i 178),(i 1),(i 0),(i 0),(i 3),(r 314),(.bool true),(i 181),(r 315),.none,.none,.none,(r 316),(i 625),(i 178),(sf 626)]
def aUU:=fP "numbers_in" 62 mv7 317
def aSA:=tS 631 ["first","last","stride"]
def aMV:=fY "run_mask" 63
def aSO:=cP "run_mask" 628 180 3 3 319 634
def aOI:=fP "run_mask" 63 mv7 324
def aO0:=tS 640 ["text","low","high","number"]
def aM3:=fY "read_number" 64
def aU7:=cP "read_number" 637 182 3 3 326 644
def aNR:=fP "read_number" 64 mv7 331
def aR1:=fY "read_run" 65
def aN7:=co [(.str "read_run" 647),(.str "read_run" 648),(sf 649),(i 189),(i 3),(i 0),(i 0),(i 3),(r 333),(.bool true),(i 181),(r 334),.none,.none,.none,(r 335),(i 650),(i 189),(sf 651)]
def aVD:=fP "read_run" 65 mv7 336
def aL1:=tS 656 ["run_text","stride_text","low","high","run","stride","last"]
def aOA:=fY "read_strided" 66
def aVB:=cP "read_strided" 653 196 4 3 338 663
def aM8:=fP "read_strided" 66 mv7 343
def aTF:=tS 669 ["item","low","high","parts","run"]
def aUV:=fY "read_item" 67
def aS3:=cP "read_item" 666 203 3 3 345 674
def aTH:=fP "read_item" 67 mv7 350
def aS0:=tS 680 ["text","low","high","items","mask","place","item","told"]
def aQB:=fY "read_field" 68
def aSW:=cP "read_field" 677 211 3 3 352 688
def aP1:=fP "read_field" 68 mv7 357
def aPY:=tS 712 ["day","first"]
def aMK:=fY "weekday_at" 78
def aVA:=cP "weekday_at" 709 233 2 3 359 714
def aRX:=fP "weekday_at" 78 mv0 364
def aRS:=tS 720 ["last"]
def aS2:=fY "all_days" 79
def aSG:=cP "all_days" 717 235 1 3 366 721
def aVF:=fP "all_days" 79 mv0 371
def aS1:=tS 727 ["day","last","first","of_week"]
def aNT:=fY "nearest_work" 80
def aU1:=cP "nearest_work" 724 237 3 3 373 731
def aOC:=fP "nearest_work" 80 mv0 378
def aLW:=tS 737 ["weekday","first"]
def aK8:=fY "first_one" 81
def aOL:=cP "first_one" 734 244 2 3 380 739
def aP4:=fP "first_one" 81 mv0 385
def aOZ(P:Params):=di [de P "__module__" 749 mv0,de P "__qualname__" 751 (.str "Mark" 750),de P "__firstlineno__" 753 (.int 246 752),dr P "days" 762 400,dr P "told" 769 407,dr P "__static_attributes__" 770 408] 6
def aPC:=fD 4 [(248,399),(251,406)]
def aR0:=cK "Mark" "Mark" 744 246 390 747
def aTW:=fr 392 389 mv0
def aQL:=tS 757 ["self","last","first"]
def aP3:=fz "days" "Mark.days" (ib (tp 82) 0)
def aNN:=cO "days" "Mark.days" 754 248 3 3 394 760
def aTT:=fQ "days" "Mark.days" (ib (tp 82) 0) mv0 399
def aRZ:=tS 766 ["self"]
def aUL:=fz "told" "Mark.told" (ib (tp 82) 1)
def aOT:=cO "told" "Mark.told" 763 251 1 3 401 767
def aOO:=fQ "told" "Mark.told" (ib (tp 82) 1) mv0 406
def aUO(P:Params):=di [de P "__module__" 749 mv0,de P "__firstlineno__" 753 (.int 246 752),dr P "days" 762 400,dr P "told" 769 407,dr P "__static_attributes__" 770 408,dr P "__dict__" 772 411,dr P "__weakref__" 774 412,de P "__doc__" 775 .none] 4
def aLA:Obj:=⟨(.type "type"),none,(.cls ⟨"Mark",[(.type "object")],[(r 410),(.type "object")],409,"Mark",true,[],[(r 445),(r 479),(r 512),(r 538),(r 571),(r 604),(r 637)],false,none,false⟩),#[none,none,(some (.str "Mark" 742)),(some (.str "Mark" 750)),(some (.builtin "object.__new__")),(some (.bool true))]⟩
def aO1:Obj:=⟨(.type "getset_descriptor"),none,(.fields #[(.str "__dict__" 771),(r 410),(.builtin "function.__dict__"),(.builtin "function.__dict__#set")]),#[]⟩
def aSN:Obj:=⟨(.type "getset_descriptor"),none,(.fields #[(.str "__weakref__" 773),(r 410),(.builtin "ExceptionGroup.__weakref__"),.none]),#[]⟩
def aRY:=su 410 410 410
def aO4:=bm "object.__init_subclass__" (r 410)
def ah8:=tu [(r 410)]
def aQT(P:Params):=di [de P "__module__" 785 mv0,de P "__qualname__" 787 (.str "Numbers" 786),de P "__firstlineno__" 789 (.int 253 788),dr P "__init__" 797 428,dr P "days" 806 435,dr P "told" 813 442,dr P "__static_attributes__" 815 443] 7
def aM5:=fD 4 [(255,427),(258,434),(261,441)]
def aRQ:=cK "Numbers" "Numbers" 780 253 418 783
def aQ0:=fr 420 417 mv0
def aQV:=tS 793 ["self","mask"]
def aMD:=fz "__init__" "Numbers.__init__" (ib (tp 83) 0)
def aUT:=cO "__init__" "Numbers.__init__" 790 255 2 3 422 795
def aUF:=fQ "__init__" "Numbers.__init__" (ib (tp 83) 0) mv0 427
def aQH:=tS 801 ["self","last","first"]
def aUE:=fz "days" "Numbers.days" (ib (tp 83) 1)
def aLH:=cO "days" "Numbers.days" 798 258 3 3 429 804
def aTA:=fQ "days" "Numbers.days" (ib (tp 83) 1) mv0 434
def aLJ:=tS 810 ["self"]
def aRT:=fz "told" "Numbers.told" (ib (tp 83) 2)
def aSZ:=cO "told" "Numbers.told" 807 261 1 3 436 811
def aOH:=fQ "told" "Numbers.told" (ib (tp 83) 2) mv0 441
def aMT:=tS 814 ["mask"]
def aQ3(P:Params):=di [de P "__module__" 785 mv0,de P "__firstlineno__" 789 (.int 253 788),dr P "__init__" 797 428,dr P "days" 806 435,dr P "told" 813 442,dr P "__static_attributes__" 815 443,de P "__doc__" 816 .none] 2
def aMR:Obj:=⟨(.type "type"),none,(.cls ⟨"Numbers",[(r 410)],[(r 445),(r 410),(.type "object")],444,"Numbers",true,[],[],false,none,false⟩),#[(some (r 415)),none,(some (.str "Numbers" 778)),(some (.str "Numbers" 786)),(some (.builtin "object.__new__")),(some (.bool true))]⟩
def aRG:=su 445 445 445
def aNI:=bm "object.__init_subclass__" (r 445)
def aON(P:Params):=di [de P "__module__" 826 mv0,de P "__qualname__" 828 (.str "Last" 827),de P "__firstlineno__" 830 (.int 263 829),dr P "__init__" 839 462,dr P "days" 848 469,dr P "told" 855 476,dr P "__static_attributes__" 857 477] 7
def aPP:=fD 4 [(265,461),(268,468),(273,475)]
def aPZ:=cK "Last" "Last" 821 263 451 824
def aS6:=fr 453 450 mv0
def aTL:=tu [(.int 0 831)]
def aR8:=tS 835 ["self","back"]
def aQ7:=fz "__init__" "Last.__init__" (ib (tp 84) 0)
def aPE:=cO "__init__" "Last.__init__" 832 265 2 3 456 837
def aPI:=fn "__init__" "Last.__init__" (ib (tp 84) 0) 3 [] (r 455) .none .none mv0 none (r 461) .none 0
def aUN:=tS 843 ["self","last","first"]
def aOQ:=fT "days" "Last.days" (ib (tp 84) 1) (ib (tp 82) 0)
def aS5:=cO "days" "Last.days" 840 268 3 3 463 846
def aLZ:=fS "days" "Last.days" (ib (tp 84) 1) (ib (tp 82) 0) mv0 468
def aTE:=tS 852 ["self"]
def aM1:=fz "told" "Last.told" (ib (tp 84) 2)
def aN8:=cO "told" "Last.told" 849 273 1 3 470 853
def aRH:=fQ "told" "Last.told" (ib (tp 84) 2) mv0 475
def aQQ:=tS 856 ["back"]
def aLM(P:Params):=di [de P "__module__" 826 mv0,de P "__firstlineno__" 830 (.int 263 829),dr P "__init__" 839 462,dr P "days" 848 469,dr P "told" 855 476,dr P "__static_attributes__" 857 477,de P "__doc__" 858 .none] 2
def aVH:Obj:=⟨(.type "type"),none,(.cls ⟨"Last",[(r 410)],[(r 479),(r 410),(.type "object")],478,"Last",true,[],[],false,none,false⟩),#[(some (r 448)),none,(some (.str "Last" 819)),(some (.str "Last" 827)),(some (.builtin "object.__new__")),(some (.bool true))]⟩
def aNF:=su 479 479 479
def aMB:=bm "object.__init_subclass__" (r 479)
def aRD(P:Params):=di [de P "__module__" 868 mv0,de P "__qualname__" 870 (.str "Near" 869),de P "__firstlineno__" 872 (.int 277 871),dr P "__init__" 880 495,dr P "days" 889 502,dr P "told" 896 509,dr P "__static_attributes__" 898 510] 7
def aRP:=fD 4 [(279,494),(282,501),(287,508)]
def aM7:=cK "Near" "Near" 863 277 485 866
def aP7:=fr 487 484 mv0
def aSL:=tS 876 ["self","day"]
def aQO:=fz "__init__" "Near.__init__" (ib (tp 85) 0)
def aU6:=cO "__init__" "Near.__init__" 873 279 2 3 489 878
def aMM:=fQ "__init__" "Near.__init__" (ib (tp 85) 0) mv0 494
def aQ4:=tS 884 ["self","last","first"]
def aMQ:=fz "days" "Near.days" (ib (tp 85) 1)
def aME:=cO "days" "Near.days" 881 282 3 3 496 887
def aST:=fQ "days" "Near.days" (ib (tp 85) 1) mv0 501
def aUD:=tS 893 ["self"]
def aTZ:=fT "told" "Near.told" (ib (tp 85) 2) (ib (tp 84) 2)
def aOK:=cO "told" "Near.told" 890 287 1 3 503 894
def aML:=fS "told" "Near.told" (ib (tp 85) 2) (ib (tp 84) 2) mv0 508
def aMG:=tS 897 ["day"]
def aOG(P:Params):=di [de P "__module__" 868 mv0,de P "__firstlineno__" 872 (.int 277 871),dr P "__init__" 880 495,dr P "days" 889 502,dr P "told" 896 509,dr P "__static_attributes__" 898 510,de P "__doc__" 899 .none] 2
def aNJ:Obj:=⟨(.type "type"),none,(.cls ⟨"Near",[(r 410)],[(r 512),(r 410),(.type "object")],511,"Near",true,[],[],false,none,false⟩),#[(some (r 482)),none,(some (.str "Near" 861)),(some (.str "Near" 869)),(some (.builtin "object.__new__")),(some (.bool true))]⟩
def aNM:=su 512 512 512
def aRM:=bm "object.__init_subclass__" (r 512)
def aUH(P:Params):=di [de P "__module__" 909 mv0,de P "__qualname__" 911 (.str "LastWork" 910),de P "__firstlineno__" 913 (.int 289 912),dr P "days" 922 528,dr P "told" 929 535,dr P "__static_attributes__" 930 536] 6
def aM0:=fD 4 [(291,527),(294,534)]
def aS9:=cK "LastWork" "LastWork" 904 289 518 907
def aNK:=fr 520 517 mv0
def aTD:=tS 917 ["self","last","first"]
def aLK:=fT "days" "LastWork.days" (ib (tp 86) 0) (ib (tp 85) 1)
def aQJ:=cO "days" "LastWork.days" 914 291 3 3 522 920
def aN9:=fS "days" "LastWork.days" (ib (tp 86) 0) (ib (tp 85) 1) mv0 527
def aL2:=tS 926 ["self"]
def aMZ:=fT "told" "LastWork.told" (ib (tp 86) 1) (ib (tp 82) 1)
def aQY:=cO "told" "LastWork.told" 923 294 1 3 529 927
def aU9:=fS "told" "LastWork.told" (ib (tp 86) 1) (ib (tp 82) 1) mv0 534
def aT2(P:Params):=di [de P "__module__" 909 mv0,de P "__firstlineno__" 913 (.int 289 912),dr P "days" 922 528,dr P "told" 929 535,dr P "__static_attributes__" 930 536,de P "__doc__" 931 .none] 2
def aUG:Obj:=⟨(.type "type"),none,(.cls ⟨"LastWork",[(r 410)],[(r 538),(r 410),(.type "object")],537,"LastWork",true,[],[],false,none,false⟩),#[(some (r 515)),none,(some (.str "LastWork" 902)),(some (.str "LastWork" 910)),(some (.builtin "object.__new__")),(some (.bool true))]⟩
def aLY:=su 538 538 538
def aOP:=bm "object.__init_subclass__" (r 538)
def aT9(P:Params):=di [de P "__module__" 941 mv0,de P "__qualname__" 943 (.str "Weekdays" 942),de P "__firstlineno__" 945 (.int 296 944),dr P "__init__" 953 554,dr P "days" 964 561,dr P "told" 971 568,dr P "__static_attributes__" 973 569] 7
def aMO:=fD 4 [(298,553),(301,560),(307,567)]
def aSV:=cK "Weekdays" "Weekdays" 936 296 544 939
def aPQ:=fr 546 543 mv0
def aLL:=tS 949 ["self","mask"]
def aS7:=fT "__init__" "Weekdays.__init__" (ib (tp 87) 0) (ib (tp 83) 0)
def aQU:=cO "__init__" "Weekdays.__init__" 946 298 2 3 548 951
def aTM:=fS "__init__" "Weekdays.__init__" (ib (tp 87) 0) (ib (tp 83) 0) mv0 553
def aL7:=tS 957 ["self","last","first","weeks","week"]
def aU5:=fz "days" "Weekdays.days" (ib (tp 87) 1)
def aSR:=cO "days" "Weekdays.days" 954 301 3 3 555 962
def aSF:=fQ "days" "Weekdays.days" (ib (tp 87) 1) mv0 560
def aRO:=tS 968 ["self"]
def aLR:=fT "told" "Weekdays.told" (ib (tp 87) 2) (ib (tp 83) 2)
def aSU:=cO "told" "Weekdays.told" 965 307 1 3 562 969
def aOS:=fS "told" "Weekdays.told" (ib (tp 87) 2) (ib (tp 83) 2) mv0 567
def aQ9:=tS 972 ["mask"]
def aR3(P:Params):=di [de P "__module__" 941 mv0,de P "__firstlineno__" 945 (.int 296 944),dr P "__init__" 953 554,dr P "days" 964 561,dr P "told" 971 568,dr P "__static_attributes__" 973 569,de P "__doc__" 974 .none] 2
def aRB:Obj:=⟨(.type "type"),none,(.cls ⟨"Weekdays",[(r 410)],[(r 571),(r 410),(.type "object")],570,"Weekdays",true,[],[],false,none,false⟩),#[(some (r 541)),none,(some (.str "Weekdays" 934)),(some (.str "Weekdays" 942)),(some (.builtin "object.__new__")),(some (.bool true))]⟩
def aM4:=su 571 571 571
def aS4:=bm "object.__init_subclass__" (r 571)
def aOD(P:Params):=di [de P "__module__" 984 mv0,de P "__qualname__" 986 (.str "Nth" 985),de P "__firstlineno__" 988 (.int 309 987),dr P "__init__" 997 587,dr P "days" 1007 594,dr P "told" 1014 601,dr P "__static_attributes__" 1017 602] 7
def aPK:=fD 4 [(311,586),(315,593),(321,600)]
def aUK:=cK "Nth" "Nth" 979 309 577 982
def aLN:=fr 579 576 mv0
def aRC:=tS 992 ["self","weekday","many"]
def aRU:=fz "__init__" "Nth.__init__" (ib (tp 88) 0)
def aNA:=cO "__init__" "Nth.__init__" 989 311 3 3 581 995
def aSP:=fQ "__init__" "Nth.__init__" (ib (tp 88) 0) mv0 586
def aPT:=tS 1001 ["self","last","first","day"]
def aTY:=fz "days" "Nth.days" (ib (tp 88) 1)
def aOM:=cO "days" "Nth.days" 998 315 3 3 588 1005
def aTI:=fQ "days" "Nth.days" (ib (tp 88) 1) mv0 593
def aN2:=tS 1011 ["self"]
def aTR:=fT "told" "Nth.told" (ib (tp 88) 2) (ib (tp 84) 2)
def aTQ:=cO "told" "Nth.told" 1008 321 1 3 595 1012
def aM6:=fS "told" "Nth.told" (ib (tp 88) 2) (ib (tp 84) 2) mv0 600
def aPX:=tS 1015 ["many","weekday"]
def aT8(P:Params):=di [de P "__module__" 984 mv0,de P "__firstlineno__" 988 (.int 309 987),dr P "__init__" 997 587,dr P "days" 1007 594,dr P "told" 1014 601,dr P "__static_attributes__" 1017 602,de P "__doc__" 1018 .none] 2
def aMI:Obj:=⟨(.type "type"),none,(.cls ⟨"Nth",[(r 410)],[(r 604),(r 410),(.type "object")],603,"Nth",true,[],[],false,none,false⟩),#[(some (r 574)),none,(some (.str "Nth" 977)),(some (.str "Nth" 985)),(some (.builtin "object.__new__")),(some (.bool true))]⟩
def aPW:=su 604 604 604
def aSC:=bm "object.__init_subclass__" (r 604)
def aUA(P:Params):=di [de P "__module__" 1028 mv0,de P "__qualname__" 1030 (.str "LastOne" 1029),de P "__firstlineno__" 1032 (.int 323 1031),dr P "__init__" 1040 620,dr P "days" 1049 627,dr P "told" 1056 634,dr P "__static_attributes__" 1058 635] 7
def aNP:=fD 4 [(325,619),(328,626),(331,633)]
def aLF:=cK "LastOne" "LastOne" 1023 323 610 1026
def aUR:=fr 612 609 mv0
def aQK:=tS 1036 ["self","weekday"]
def aPM:=fz "__init__" "LastOne.__init__" (ib (tp 89) 0)
def aL4:=cO "__init__" "LastOne.__init__" 1033 325 2 3 614 1038
def aP6:=fQ "__init__" "LastOne.__init__" (ib (tp 89) 0) mv0 619
def aL6:=tS 1044 ["self","last","first"]
def aVC:=fz "days" "LastOne.days" (ib (tp 89) 1)
def aL3:=cO "days" "LastOne.days" 1041 328 3 3 621 1047
def aSJ:=fQ "days" "LastOne.days" (ib (tp 89) 1) mv0 626
def aOX:=tS 1053 ["self"]
def aUP:=fT "told" "LastOne.told" (ib (tp 89) 2) (ib (tp 84) 2)
def aRI:=cO "told" "LastOne.told" 1050 331 1 3 628 1054
def aPB:=fS "told" "LastOne.told" (ib (tp 89) 2) (ib (tp 84) 2) mv0 633
def aVK:=tS 1057 ["weekday"]
def aMC(P:Params):=di [de P "__module__" 1028 mv0,de P "__firstlineno__" 1032 (.int 323 1031),dr P "__init__" 1040 620,dr P "days" 1049 627,dr P "told" 1056 634,dr P "__static_attributes__" 1058 635,de P "__doc__" 1059 .none] 2
def aMP:Obj:=⟨(.type "type"),none,(.cls ⟨"LastOne",[(r 410)],[(r 637),(r 410),(.type "object")],636,"LastOne",true,[],[],false,none,false⟩),#[(some (r 607)),none,(some (.str "LastOne" 1021)),(some (.str "LastOne" 1029)),(some (.builtin "object.__new__")),(some (.bool true))]⟩
def aUX:=su 637 637 637
def aL9:=bm "object.__init_subclass__" (r 637)
def lM(P:Params)(x0 x1:Obj):List Obj:=[(boot_o_0 P),(boot_o_1 P),(boot_o_2 P),x0,(boot_o_4 P),(boot_o_5 P),(boot_o_6 P),(boot_o_7 P),(boot_o_8 P),(boot_o_9 P),(boot_o_10 P),o0,x1,o2,o3,o0,o1,o6,o0,o7,o8,o9,o10,o11,(o12 P),o0,o1,o13,o14,o0,(o15 P),o16,o17,o18,o19,o20,o11,(o21 P),o0,o1,o22,o23,o0,(o24 P),o25,o26,o27,o20,o11,(o28 P),o0,o29,o30,o31,o0,o1,o32,o0,o33,o34,o35,o36,(o37 P),o38,o39,o40,o20,o11,(o41 P),o0,o42,o43,o44,o0,o1,o45,o0,o46,o47,o48,o49,(o50 P),o51,o52,o53,o0,o1,o54,o0,o55,o56,o57,o58,o0,o1,o59,o0,o60,o61,o62,o0,o1,o63,o0,o64,o65,o66,o0,o1,o67,o0,o68,o69,o70,o0,o1,o71,o0,o72,o73,o74,o0,o1,o75,o0,o76,o77,o78,o0,o1,o79,o80,o81,o0,o1,o82,o0,o83,o84,o85,o0,o1,o86,o0,o87,o88,o89,o0,o1,o90,o0,o91,o92,o93,o0,o1,o94,o95,o96,o0,o1,o97,o0,o98,o99,aT7,o0,o1,aSM,o0,aMX,aMS,aR5,o0,o1,aR9,o0,aTU,aNZ,aLP,o0,o1,aNE,o0,aVI,aP0,aLT,o0,o1,aMY,o0,aRA,aNH,aNV,o0,o1,aPH,o0,aP2,aPN,aLI,o0,o1,aTK,o0,aN6,aUY,aLS,o0,o1,aNY,o0,aRK,aRN,aR4,o0,o1,aQZ,aLC,aP5,o0,o1,aRF,o0,aMF,aTB,aQI,o0,o1,aUW,aQD,aSK,o0,o1,aMA,o0,aQA,aUM,aRV,o0,o1,aUS,aLO,aLQ,o0,o1,aNC,o0,aOJ,aO8,aRE,o0,o1,aPS,o0,aOU,aN1,aL5,o0,o1,aSY,o0,aLU,aRR,aLB,o0,o1,aQE,o0,aO6,aSI,aLX,o0,o1,aLV,o0,aMN,aNO,aVJ,o0,o1,aPU,o0,aQS,aLE,aPR,o0,o1,aT6,o0,aP8,aSE,aSS,o0,o1,aM2,o0,aUZ,aM9,aTV,o0,o1,aLG,aQM,aNW,aTN,aPF,o0,o1,aSH,o0,aMH,aNS,aO2,o0,o1,aO3,aQ2,aUU,o0,o1,aSA,o0,aMV,aSO,aOI,o0,o1,aO0,o0,aM3,aU7,aNR,o0,o1,aR1,aN7,aVD,o0,o1,aL1,o0,aOA,aVB,aM8,o0,o1,aTF,o0,aUV,aS3,aTH,o0,o1,aS0,o0,aQB,aSW,aP1,o0,o1,aPY,o0,aMK,aVA,aRX,o0,o1,aRS,o0,aS2,aSG,aVF,o0,o1,aS1,o0,aNT,aU1,aOC,o0,o1,aLW,o0,aK8,aOL,aP4,o0,o11,(aOZ P),o0,aPC,aR0,aTW,o0,o1,aQL,o0,aP3,aNN,aTT,o0,o1,aRZ,o0,aUL,aOT,aOO,o0,(aUO P),aLA,aO1,aSN,aRY,aO4,ah8,o11,(aQT P),o0,aM5,aRQ,aQ0,o0,o1,aQV,o0,aMD,aUT,aUF,o0,o1,aQH,o0,aUE,aLH,aTA,o0,o1,aLJ,o0,aRT,aSZ,aOH,aMT,(aQ3 P),aMR,aRG,aNI,ah8,o11,(aON P),o0,aPP,aPZ,aS6,aTL,o0,o1,aR8,o0,aQ7,aPE,aPI,o0,o1,aUN,o0,aOQ,aS5,aLZ,o0,o1,aTE,o0,aM1,aN8,aRH,aQQ,(aLM P),aVH,aNF,aMB,ah8,o11,(aRD P),o0,aRP,aM7,aP7,o0,o1,aSL,o0,aQO,aU6,aMM,o0,o1,aQ4,o0,aMQ,aME,aST,o0,o1,aUD,o0,aTZ,aOK,aML,aMG,(aOG P),aNJ,aNM,aRM,ah8,o11,(aUH P),o0,aM0,aS9,aNK,o0,o1,aTD,o0,aLK,aQJ,aN9,o0,o1,aL2,o0,aMZ,aQY,aU9,o0,(aT2 P),aUG,aLY,aOP,ah8,o11,(aT9 P),o0,aMO,aSV,aPQ,o0,o1,aLL,o0,aS7,aQU,aTM,o0,o1,aL7,o0,aU5,aSR,aSF,o0,o1,aRO,o0,aLR,aSU,aOS,aQ9,(aR3 P),aRB,aM4,aS4,ah8,o11,(aOD P),o0,aPK,aUK,aLN,o0,o1,aRC,o0,aRU,aNA,aSP,o0,o1,aPT,o0,aTY,aOM,aTI,o0,o1,aN2,o0,aTR,aTQ,aM6,aPX,(aT8 P),aMI,aPW,aSC,ah8,o11,(aUA P),o0,aNP,aLF,aUR,o0,o1,aQK,o0,aPM,aL4,aP6,o0,o1,aL6,o0,aVC,aL3,aSJ,o0,o1,aOX,o0,aUP,aRI,aPB,aVK,(aMC P),aMP,aUX,aL9]
def t1(P:Params):BT:=brn 11 (lM P (o4 P) o5)
def s1(w:World)(os:OsState):SharedT:=⟨t1 w.params,640,⟨[],[],[],0,[],[],false,#[],[],0,false,false,false,0,[2000,10,10],false,0,true,[],[],0,false⟩,#[],⟨0,0,0,0⟩,1062,os⟩
def l0:List Stmt:=(bi.drop 0).take 90
theorem r0(w:World)(os:OsState):
  segRunT treeTable pw w 11 an 1 4975 (s0 w os) (piecesOf l0 ev cd ⟨0,0,0,0⟩ bk) =
  some (.next,s1 w os,cd,⟨323,0,332,38⟩):=by kernel_rfl
def o391(P:Params):=di (de P "__name__" 165 mv8::(eo4 P++[dr P "any_days" 1072 646,dr P "read_day_mark" 1081 653,dr P "read_weekday" 1089 660,dr P "read_weekday_mark" 1099 667,dr P "read_items" 1116 674,dr P "read_days" 1124 681,dr P "read_weekdays" 1133 688,de P "MOST_ROW_SIGNS" 1137 (.int 1600 1136),de P "MINUTE" 1139 (.int 0 1138),de P "HOUR" 1141 (.int 1 1140),de P "DAY" 1143 (.int 2 1142),de P "MONTH" 1145 (.int 3 1144),de P "WEEKDAY" 1147 (.int 4 1146),de P "NO_PLACE" 1149 (.int 5 1148),dr P "BOUNDS" 1162 689,dr P "times_of" 1172 699,dr P "days_by" 1184 706,dr P "Row" 1286 784,dr P "read_word" 1295 795,dr P "read_at" 1303 802,dr P "read_row" 1309 807,dr P "_law_cell_at" 1319 814,dr P "_law_stir" 1328 821,dr P "_law_digits" 1339 828,dr P "_law_whole" 1346 835,dr P "_law_item" 1359 842,dr P "_law_numbers" 1376 849,dr P "_law_days" 1396 856,dr P "_law_weekdays" 1402 861,dr P "_law_spec" 1417 868,dr P "_law_near" 1428 875,dr P "_law_marked" 1434 880,dr P "_law_any" 1445 887,dr P "_law_day_held" 1457 894,dr P "_law_start" 1464 901,dr P "_law_last" 1472 908,dr P "_law_date" 1483 915,dr P "_law_told" 1495 922,dr P "_law_word" 1504 929,dr P "_law_moment" 1515 936,dr P "_law_months_shut" 1529 943,dr P "_law_times_shut" 1542 950,dr P "_law_shut" 1554 957,dr P "_law_is_piece" 1561 964,dr P "_law_walked" 1575 971,dr P "_law_never" 1587 978,dr P "_law_right" 1597 985,dr P "law" 1603 990])) 136
def o392:=fD 0 [(1,20),(5,27),(7,40),(9,52),(13,71),(18,90),(24,98),(26,105),(28,112),(31,119),(35,126),(39,131),(44,138),(49,145),(57,152),(61,157),(63,164),(68,171),(75,178),(78,185),(80,192),(86,199),(91,206),(93,213),(95,218),(98,225),(103,230),(105,237),(109,242),(112,249),(117,256),(124,263),(130,270),(141,277),(146,284),(150,291),(153,298),(164,305),(173,312),(178,317),(180,324),(182,331),(189,336),(196,343),(203,350),(211,357),(233,364),(235,371),(237,378),(244,385),(246,392),(253,420),(263,453),(277,487),(289,520),(296,546),(309,579),(323,612),(333,645),(338,652),(350,659),(353,666),(365,673),(383,680),(390,687),(407,698),(412,705),(420,712),(471,794),(478,801),(483,806),(491,813),(495,820),(499,827),(510,834),(512,841),(528,848),(538,855),(559,860),(576,867),(592,874),(598,879),(614,886),(619,893),(629,900),(631,907),(635,914),(649,921),(656,928),(665,935),(672,942),(680,949),(690,956),(701,963),(705,970),(716,977),(727,984),(735,989)]
def o393:=tS 1065 ["marks","last","first","mask","mark"]
def o394:=fY "any_days" 90
def o395:=cP "any_days" 1062 333 3 3 640 1070
def o396:=fP "any_days" 90 mv0 645
def o397:=tS 1076 ["item","back","day"]
def o398:=fY "read_day_mark" 91
def o399:=cP "read_day_mark" 1073 338 1 3 647 1079
def o400:=fP "read_day_mark" 91 mv0 652
def o401:=tS 1085 ["text","number"]
def o402:=fY "read_weekday" 92
def o403:=cP "read_weekday" 1082 350 1 3 654 1087
def o404:=fP "read_weekday" 92 mv0 659
def o405:=tS 1093 ["item","weekday","parts","many"]
def o406:=fY "read_weekday_mark" 93
def o407:=cP "read_weekday_mark" 1090 353 1 3 661 1097
def o408:=fP "read_weekday_mark" 93 mv0 666
def o409:=tS 1103 ["text","low","high","read_mark","items","mask","marks","place","item","plain","mark"]
def o410:=fY "read_items" 94
def o411:=cP "read_items" 1100 365 4 3 668 1114
def o412:=fP "read_items" 94 mv0 673
def o413:=tS 1120 ["text","read"]
def o414:=fY "read_days" 95
def o415:=cP "read_days" 1117 383 1 3 675 1122
def o416:=fP "read_days" 95 mv0 680
def o417:=tS 1128 ["text","read","mask"]
def o418:=fY "read_weekdays" 96
def o419:=cP "read_weekdays" 1125 390 1 3 682 1131
def o420:=fP "read_weekdays" 96 mv0 687
def o421:=di [⟨0,(.int 0 1150),(r 690)⟩,⟨1,(.int 1 1153),(r 691)⟩,⟨3,(.int 3 1156),(r 692)⟩] 3
def o422:=tu [(.int 0 1151),(.int 59 1152)]
def o423:=tu [(.int 0 1154),(.int 23 1155)]
def o424:=tu [(.int 1 1157),(.int 12 1158)]
def o425:=tS 1166 ["hours","minutes","times","hour"]
def o426:=fY "times_of" 106
def o427:=cP "times_of" 1163 407 2 3 693 1170
def o428:=fP "times_of" 106 mv9 698
def o429:=tS 1176 ["days","weekdays","last","first","mask","marks"]
def o430:=fY "days_by" 107
def o431:=cP "days_by" 1173 412 4 3 700 1182
def o432:=fP "days_by" 107 mv9 705
def o433(P:Params):=di [de P "__module__" 1192 mv9,de P "__qualname__" 1194 (.str "Row" 1193),de P "__firstlineno__" 1196 (.int 420 1195),dr P "__init__" 1204 720,dr P "minutes" 1211 727,dr P "hours" 1218 734,dr P "months" 1225 741,dr P "times" 1232 748,dr P "days_in" 1241 755,dr P "on_days" 1247 760,dr P "holds" 1255 767,dr P "shut_by" 1265 774,dr P "shown" 1272 781,dr P "__static_attributes__" 1279 782] 14
def o434:=fD 4 [(422,719),(430,726),(433,733),(436,740),(439,747),(442,754),(448,759),(453,766),(456,773),(469,780)]
def o435:=cK "Row" "Row" 1187 420 710 1190
def o436:=fr 712 709 mv9
def o437:=tS 1200 ["self","fields"]
def o438:=fz "__init__" "Row.__init__" (ib (tp 108) 0)
def o439:=cO "__init__" "Row.__init__" 1197 422 2 3 714 1202
def o440:=fQ "__init__" "Row.__init__" (ib (tp 108) 0) mv9 719
def o441:=tS 1208 ["self"]
def o442:=fT "minutes" "Row.minutes" (ib (tp 108) 1) (ib (tp 82) 1)
def o443:=cO "minutes" "Row.minutes" 1205 430 1 3 721 1209
def o444:=fS "minutes" "Row.minutes" (ib (tp 108) 1) (ib (tp 82) 1) mv9 726
def o445:=tS 1215 ["self"]
def o446:=fT "hours" "Row.hours" (ib (tp 108) 2) (ib (tp 82) 1)
def o447:=cO "hours" "Row.hours" 1212 433 1 3 728 1216
def o448:=fS "hours" "Row.hours" (ib (tp 108) 2) (ib (tp 82) 1) mv9 733
def o449:=tS 1222 ["self"]
def o450:=fz "months" "Row.months" (ib (tp 108) 3)
def o451:=cO "months" "Row.months" 1219 436 1 3 735 1223
def o452:=fQ "months" "Row.months" (ib (tp 108) 3) mv9 740
def o453:=tS 1229 ["self"]
def o454:=fT "times" "Row.times" (ib (tp 108) 4) (ib (tp 82) 1)
def o455:=cO "times" "Row.times" 1226 439 1 3 742 1230
def o456:=fS "times" "Row.times" (ib (tp 108) 4) (ib (tp 82) 1) mv9 747
def o457:=tS 1236 ["self","kind","month"]
def o458:=fz "days_in" "Row.days_in" (ib (tp 108) 5)
def o459:=cO "days_in" "Row.days_in" 1233 442 2 3 749 1239
def o460:=fQ "days_in" "Row.days_in" (ib (tp 108) 5) mv9 754
def o461:=fz "on_days" "Row.on_days" (ib (tp 108) 6)
def o462:=co [(.str "on_days" 1242),(.str "Row.on_days" 1243),(sf 1244),(i 448),(i 2),(i 0),(i 0),(i 3),(r 756),(.bool true),(i 181),(r 757),.none,.none,.none,(r 758),(i 1245),(i 448),(sf 1246)]
def o463:=fQ "on_days" "Row.on_days" (ib (tp 108) 6) mv9 759
def o464:=tS 1251 ["self","moment"]
def o465:=fz "holds" "Row.holds" (ib (tp 108) 7)
def o466:=cO "holds" "Row.holds" 1248 453 2 3 761 1253
def o467:=fQ "holds" "Row.holds" (ib (tp 108) 7) mv9 766
def o468:=tS 1259 ["self","moment","parts","date"]
def o469:=fz "shut_by" "Row.shut_by" (ib (tp 108) 8)
def o470:=cO "shut_by" "Row.shut_by" 1256 456 2 3 768 1263
def o471:=fQ "shut_by" "Row.shut_by" (ib (tp 108) 8) mv9 773
def o472:=tS 1269 ["self"]
def o473:=fT "shown" "Row.shown" (ib (tp 108) 9) (ib (tp 108) 3)
def o474:=cO "shown" "Row.shown" 1266 469 1 3 775 1270
def o475:=fS "shown" "Row.shown" (ib (tp 108) 9) (ib (tp 108) 3) mv9 780
def o476:=tS 1273 ["day_marks","hour_mask","minute_mask","month_mask","time_mask","weekday_marks"]
def o477(P:Params):=di [de P "__module__" 1192 mv9,de P "__firstlineno__" 1196 (.int 420 1195),dr P "__init__" 1204 720,dr P "minutes" 1211 727,dr P "hours" 1218 734,dr P "months" 1225 741,dr P "times" 1232 748,dr P "days_in" 1241 755,dr P "on_days" 1247 760,dr P "holds" 1255 767,dr P "shut_by" 1265 774,dr P "shown" 1272 781,dr P "__static_attributes__" 1279 782,dr P "__dict__" 1281 785,dr P "__weakref__" 1283 786,de P "__doc__" 1284 .none] 4
def o478:Obj:=⟨(.type "type"),none,(.cls ⟨"Row",[(.type "object")],[(r 784),(.type "object")],783,"Row",true,[],[],false,none,false⟩),#[none,none,(some (.str "Row" 1185)),(some (.str "Row" 1193)),(some (.builtin "object.__new__")),(some (.bool true))]⟩
def o479:Obj:=⟨(.type "getset_descriptor"),none,(.fields #[(.str "__dict__" 1280),(r 784),(.builtin "function.__dict__"),(.builtin "function.__dict__#set")]),#[]⟩
def o480:Obj:=⟨(.type "getset_descriptor"),none,(.fields #[(.str "__weakref__" 1282),(r 784),(.builtin "ExceptionGroup.__weakref__"),.none]),#[]⟩
def o481:=su 784 784 784
def o482:=bm "object.__init_subclass__" (r 784)
def o483:=tS 1290 ["word","place","bounds"]
def o484:=fY "read_word" 109
def o485:=cP "read_word" 1287 471 2 3 789 1293
def o486:=fP "read_word" 109 mv9 794
def o487:=tS 1299 ["word","place"]
def o488:=fY "read_at" 110
def o489:=cP "read_at" 1296 478 2 3 796 1301
def o490:=fP "read_at" 110 mv9 801
def o491:=fY "read_row" 111
def o492:=co [(.str "read_row" 1304),(.str "read_row" 1305),(sf 1306),(i 483),(i 1),(i 0),(i 0),(i 3),(r 803),(.bool true),(i 181),(r 804),.none,.none,.none,(r 805),(i 1307),(i 483),(sf 1308)]
def o493:=fP "read_row" 111 mv9 806
def o494:=tS 1315 ["_law_script","_law_k"]
def o495:=fY "_law_cell_at" 113
def o496:=cP "_law_cell_at" 1312 491 2 3 808 1317
def o497:=fP "_law_cell_at" 113 mv8 813
def o498:=tS 1323 ["_law_number","_law_first","_law_second"]
def o499:=fY "_law_stir" 114
def o500:=cP "_law_stir" 1320 495 1 3 815 1326
def o501:=fP "_law_stir" 114 mv8 820
def o502:=tS 1332 ["_law_cell","_law_sizes","_law_mixed","_law_found","_law_size"]
def o503:=fY "_law_digits" 115
def o504:=cP "_law_digits" 1329 499 3 3 822 1337
def o505:=fP "_law_digits" 115 mv8 827
def o506:=tS 1343 ["_law_found"]
def o507:=fY "_law_whole" 116
def o508:=cP "_law_whole" 1340 510 1 3 829 1344
def o509:=fP "_law_whole" 116 mv8 834
def o510:=tS 1350 ["_law_parts","_law_low","_law_high","_law_form","_law_one","_law_later","_law_by"]
def o511:=fY "_law_item" 117
def o512:=cP "_law_item" 1347 512 3 3 836 1357
def o513:=fP "_law_item" 117 mv8 841
def o514:=tS 1363 ["_law_cell","_law_low","_law_high","_law_mixed","_law_size","_law_drawn","_law_texts","_law_numbers_here","_law_k","_law_text","_law_some"]
def o515:=fY "_law_numbers" 118
def o516:=cP "_law_numbers" 1360 528 4 3 843 1374
def o517:=fP "_law_numbers" 118 mv8 848
def o518:=tS 1380 ["_law_cell","_law_mixed","_law_drawn","_law_texts","_law_marks","_law_k","_law_sort","_law_form","_law_one","_law_later","_law_by","_law_text","_law_some","_law_mark"]
def o519:=fY "_law_days" 119
def o520:=cP "_law_days" 1377 538 2 3 850 1394
def o521:=fP "_law_days" 119 mv8 855
def o522:=fY "_law_weekdays" 120
def o523:=co [(.str "_law_weekdays" 1397),(.str "_law_weekdays" 1398),(sf 1399),(i 559),(i 2),(i 0),(i 0),(i 3),(r 857),(.bool true),(i 181),(r 858),.none,.none,.none,(r 859),(i 1400),(i 559),(sf 1401)]
def o524:=fP "_law_weekdays" 120 mv8 860
def o525:=tS 1406 ["_law_cells","_law_mixed","_law_minutes","_law_hours","_law_days_here","_law_months","_law_weekdays_here","_law_rare","_law_text"]
def o526:=fY "_law_spec" 121
def o527:=cP "_law_spec" 1403 576 2 3 862 1415
def o528:=fP "_law_spec" 121 mv8 867
def o529:=tS 1421 ["_law_day","_law_last_here","_law_first","_law_gap","_law_one"]
def o530:=fY "_law_near" 122
def o531:=cP "_law_near" 1418 592 3 3 869 1426
def o532:=fP "_law_near" 122 mv8 874
def o533:=fY "_law_marked" 123
def o534:=co [(.str "_law_marked" 1429),(.str "_law_marked" 1430),(sf 1431),(i 598),(i 4),(i 0),(i 0),(i 3),(r 876),(.bool true),(i 181),(r 877),.none,.none,.none,(r 878),(i 1432),(i 598),(sf 1433)]
def o535:=fP "_law_marked" 123 mv8 879
def o536:=tS 1438 ["_law_marks","_law_day","_law_last_here","_law_first","_law_mark"]
def o537:=fY "_law_any" 124
def o538:=cP "_law_any" 1435 614 4 3 881 1443
def o539:=fP "_law_any" 124 mv8 886
def o540:=tS 1449 ["_law_spec_here","_law_day","_law_last_here","_law_first","_law_days_here","_law_weekdays_here"]
def o541:=fY "_law_day_held" 125
def o542:=cP "_law_day_held" 1446 619 4 3 888 1455
def o543:=fP "_law_day_held" 125 mv8 893
def o544:=tS 1461 ["_law_year"]
def o545:=fY "_law_start" 126
def o546:=cP "_law_start" 1458 629 1 3 895 1462
def o547:=fP "_law_start" 126 mv8 900
def o548:=tS 1468 ["_law_year","_law_month"]
def o549:=fY "_law_last" 127
def o550:=cP "_law_last" 1465 631 2 3 902 1470
def o551:=fP "_law_last" 127 mv8 907
def o552:=tS 1476 ["_law_number","_law_rounds","_law_left","_law_year","_law_month"]
def o553:=fY "_law_date" 128
def o554:=cP "_law_date" 1473 635 1 3 909 1481
def o555:=fP "_law_date" 128 mv8 914
def o556:=tS 1487 ["_law_spec_here","_law_number","_law_month","_law_day","_law_last_here","_law_first"]
def o557:=fY "_law_told" 129
def o558:=cP "_law_told" 1484 649 2 3 916 1493
def o559:=fP "_law_told" 129 mv8 921
def o560:=tS 1499 ["_law_spec_here","_law_moment_here","_law_told_here"]
def o561:=fY "_law_word" 130
def o562:=cP "_law_word" 1496 656 2 3 923 1502
def o563:=fP "_law_word" 130 mv8 928
def o564:=tS 1508 ["_law_cell","_law_mixed","_law_drawn","_law_year","_law_number"]
def o565:=fY "_law_moment" 131
def o566:=cP "_law_moment" 1505 665 2 3 930 1513
def o567:=fP "_law_moment" 131 mv8 935
def o568:=tS 1519 ["_law_spec_here","_law_first","_law_last_here","_law_number","_law_month","_law_day","_law_ends","_law_begins"]
def o569:=fY "_law_months_shut" 132
def o570:=cP "_law_months_shut" 1516 672 3 3 937 1527
def o571:=fP "_law_months_shut" 132 mv8 942
def o572:=tS 1533 ["_law_spec_here","_law_first","_law_last_here","_law_word_here","_law_strict","_law_size","_law_at"]
def o573:=fY "_law_times_shut" 133
def o574:=cP "_law_times_shut" 1530 680 5 3 944 1540
def o575:=fP "_law_times_shut" 133 mv8 949
def o576:=tS 1546 ["_law_spec_here","_law_first","_law_last_here","_law_word_here","_law_strict","_law_number"]
def o577:=fY "_law_shut" 134
def o578:=cP "_law_shut" 1543 690 5 3 951 1552
def o579:=fP "_law_shut" 134 mv8 956
def o580:=tS 1558 ["_law_thing"]
def o581:=fY "_law_is_piece" 135
def o582:=cP "_law_is_piece" 1555 701 1 3 958 1559
def o583:=fP "_law_is_piece" 135 mv8 963
def o584:=tS 1565 ["_law_spec_here","_law_begin","_law_end","_law_paper","_law_strict","_law_at","_law_ahead","_law_thing"]
def o585:=fY "_law_walked" 136
def o586:=cP "_law_walked" 1562 705 5 3 965 1573
def o587:=fP "_law_walked" 136 mv8 970
def o588:=tS 1579 ["_law_spec_here","_law_month","_law_ends","_law_last_here","_law_first","_law_day"]
def o589:=fY "_law_never" 137
def o590:=cP "_law_never" 1576 716 1 3 972 1585
def o591:=fP "_law_never" 137 mv8 977
def o592:=tS 1591 ["_law_spec_here","_law_moment_here","_law_found","_law_paper"]
def o593:=fY "_law_right" 138
def o594:=cP "_law_right" 1588 727 4 3 979 1595
def o595:=fP "_law_right" 138 mv8 984
def o596:=fY "law" 139
def o597:=co [(.str "law" 1598),(.str "law" 1599),(sf 1600),(i 735),(i 1),(i 0),(i 0),(i 3),(r 986),(.bool true),(i 181),(r 987),.none,.none,.none,(r 988),(i 1601),(i 735),(sf 1602)]
def o598:=fP "law" 139 mv8 989
def hL(P:Params):List Obj:=lM P (o391 P) o392++[o0,o1,o393,o0,o394,o395,o396,o0,o1,o397,o0,o398,o399,o400,o0,o1,o401,o0,o402,o403,o404,o0,o1,o405,o0,o406,o407,o408,o0,o1,o409,o0,o410,o411,o412,o0,o1,o413,o0,o414,o415,o416,o0,o1,o417,o0,o418,o419,o420,o421,o422,o423,o424,o0,o1,o425,o0,o426,o427,o428,o0,o1,o429,o0,o430,o431,o432,o0,o11,(o433 P),o0,o434,o435,o436,o0,o1,o437,o0,o438,o439,o440,o0,o1,o441,o0,o442,o443,o444,o0,o1,o445,o0,o446,o447,o448,o0,o1,o449,o0,o450,o451,o452,o0,o1,o453,o0,o454,o455,o456,o0,o1,o457,o0,o458,o459,o460,o0,o1,o461,o462,o463,o0,o1,o464,o0,o465,o466,o467,o0,o1,o468,o0,o469,o470,o471,o0,o1,o472,o0,o473,o474,o475,o476,(o477 P),o478,o479,o480,o481,o482,o0,o1,o483,o0,o484,o485,o486,o0,o1,o487,o0,o488,o489,o490,o0,o1,o491,o492,o493,o0,o1,o494,o0,o495,o496,o497,o0,o1,o498,o0,o499,o500,o501,o0,o1,o502,o0,o503,o504,o505,o0,o1,o506,o0,o507,o508,o509,o0,o1,o510,o0,o511,o512,o513,o0,o1,o514,o0,o515,o516,o517,o0,o1,o518,o0,o519,o520,o521,o0,o1,o522,o523,o524,o0,o1,o525,o0,o526,o527,o528,o0,o1,o529,o0,o530,o531,o532,o0,o1,o533,o534,o535,o0,o1,o536,o0,o537,o538,o539,o0,o1,o540,o0,o541,o542,o543,o0,o1,o544,o0,o545,o546,o547,o0,o1,o548,o0,o549,o550,o551,o0,o1,o552,o0,o553,o554,o555,o0,o1,o556,o0,o557,o558,o559,o0,o1,o560,o0,o561,o562,o563,o0,o1,o564,o0,o565,o566,o567,o0,o1,o568,o0,o569,o570,o571,o0,o1,o572,o0,o573,o574,o575,o0,o1,o576,o0,o577,o578,o579,o0,o1,o580,o0,o581,o582,o583,o0,o1,o584,o0,o585,o586,o587,o0,o1,o588,o0,o589,o590,o591,o0,o1,o592,o0,o593,o594,o595,o0,o1,o596,o597,o598]
def t2(P:Params):BT:=brn 11 (hL P)
def s2(w:World)(os:OsState):SharedT:=⟨t2 w.params,991,⟨[],[],[],0,[],[],false,#[],[],0,false,false,false,0,[2000,10,10],false,0,true,[],[],0,false⟩,#[],⟨0,0,0,0⟩,1604,os⟩
def l1:List Stmt:=(bi.drop 90).take 50
theorem r1(w:World)(os:OsState):
  segRunT treeTable pw w 11 an 1 1908 (s1 w os) (piecesOf l1 ev cd ⟨323,0,332,38⟩ bk) =
  some (.next,s2 w os,cd,⟨735,0,746,15⟩):=
 byRow2 "special-get-raises" (P:=fun w=>segRunT treeTable pw w 11 an 1 1908 (s1 w os) (piecesOf l1 ev cd ⟨323,0,332,38⟩ bk)=some (.next,s2 w os,cd,⟨735,0,746,15⟩)) (fun w=>by kernel_rfl) (fun w=>by kernel_rfl) w
def hF(P:Params):Heap:=⟨⟨hL P⟩,⟨[],[],[],0,[],[],false,#[],[],0,false,false,false,0,[2000,10,10],false,0,true,[],[],0,false⟩⟩
def sF(w:World)(os:OsState):Shared:=⟨hF w.params,#[],⟨0,0,0,0⟩,1604,os⟩
theorem fin(w:World)(os:OsState):
  topRun treeTable pw w 11 an 2 (s2 w os).abs (restOf [] ev cd ⟨735,0,746,15⟩ bk) =
  some (sF w os):=by kernel_rfl
theorem bis:bi=(l0++(l1++[])):=by kernel_rfl
theorem run(w:World)(os:OsState):topRun treeTable pw w 11 an (12+(1+(4975+(1908+(2))))) ⟨boot_heap w.params,⟨[]⟩,boot_drawn,boot_toks,os⟩ (topStub pw)=some (sF w os):=by
 refine go_top (pre w os) (piece_block (blk w os) ?_)
 rw[bis]
 exact (piece_app (segRun_of (r0 w os)) (piece_app (segRun_of (r1 w os)) (fin w os)))
theorem opn:∀w:World,(fencedOpening treeTable pw w 13888).map (fun s=>(s.heap,s.gens,s.drawn,s.toks))=some (boot_heap w.params,⟨[]⟩,boot_drawn,boot_toks):=
 boot_open (by kernel_rfl) rfl (fun s=>by kernel_rfl)
theorem siz(w:World):((boot_heap w.params).isNs mainGlobals&&(⟨[]⟩:Array GenState).size==0,(boot_heap w.params).objs.size,(boot_heap w.params).nsMap mainGlobals "__annotations__")=(true,11,an):=by kernel_rfl
end
end
theorem aSQ{q:Program}{loose mods:List Str}{Xt:Shared->Bool}{s:Shared}
  (e1:seen ((recsOf q).map (·.name)) (ownsOf q) [] {s with gens:= #[]}=expectedOf q) (e2:s.heap.bltView=bltViewBooted)
  (a1:s.heap.keysOk (looseW q loose) ((recsOf q).map (·.name)) ((litsOf q).map (·.1)) ((clssOf q (looseW q loose)).map (·.name))=true)
  (a2:s.heap.accountedOkI mods=true) (a3:s.heap.isNs mainGlobals=true) (a4:s.heap.isNs builtinsNs=true)
  (a5:tablesOk q s.heap=true) (a6:Xt s=true) (a7:(s.gens.size==0)=true) (e4:tabsOk q s=true)
  (e5:pinSeenD q (drecsOf q) s=pinGoodD (drecsOf q)) (e6:plainSeenE q (looseW q loose) s=plainGoodE q (looseW q loose))
  (e7:plainSeenD q loose s=plainGoodD q loose) (e8:wideSeen q s=wideGood q) (e9:clsSeenW q loose s=clsGoodW q loose):
  openSeen q loose mods Xt true s=openGood q loose:=by
 unfold openSeen openGood
 rw[e1,e2,a1,a2,a3,a4,a5,a6,if_pos rfl,a7,e4,e5,e6,e7,e8,e9];rfl
theorem aQW{α:Type}(n:Nat){l r:List α}(h1:l.take n=r.take n)(h2:l.drop n=r.drop n):l=r:=by
 rw[←List.take_append_drop n l,h1,h2,List.take_append_drop]
noncomputable def aaR:Program:=view PySem.Challenge.pw_fivefields_k51_next_walked [0,2,3,4,5,7,9,10,11,12,13,14,15,16,17,18,19,20,22,23,24,26,27,28,30,31,32,33,34,35,36,38,39,40,41,42,43,44,46,47,48,49,51,52,53,54,55,56,58,59,60,61,62,63,64,65,66,67,68,70,71,72,73,74,75,76,77,78,79,80,81,82,83,84,85,86,87,88,89,90,91,92,93,94,95,96,98,99,100,101,102,103,104,105,106,107,108,109,110,111,113,114,115,116,117,118,119,120,121,122,123,124,125,126,127,128,129,130,131,132,133,134,135,136,137,138,139]
noncomputable def free:List Str:=[Str.ofString "Last",Str.ofString "BOUNDS"]
noncomputable def read:List (Str×WData):=[]
section
set_option maxHeartbeats 0
set_option maxRecDepth 100000
noncomputable section
def XT:Shared->Bool:=fun z=>xlAt aaR read z&&recOk (RowW.records (OpenRow.toRowW (OpenLaw.row PySem.Challenge.rw_fivefields_k51_next_walked))) z
abbrev SE(w:World)(os:OsState):=openSeen aaR free (importedModules pw.main.body) XT true (sF w os)
section
variable(w:World)(os:OsState)
theorem z1:seen ((recsOf aaR).map (·.name)) (ownsOf aaR) [] {sF w os with gens:= #[]}=expectedOf aaR:=by kernel_rfl
theorem z2:(sF w os).heap.bltView=bltViewBooted:=by kernel_rfl
theorem y1:(sF w os).heap.keysOk (looseW aaR free) ((recsOf aaR).map (·.name)) ((litsOf aaR).map (·.1)) ((clssOf aaR (looseW aaR free)).map (·.name))=true:=by kernel_rfl
theorem y2:(sF w os).heap.accountedOkI (importedModules pw.main.body)=true:=by kernel_rfl
theorem y3:(sF w os).heap.isNs mainGlobals=true:=by kernel_rfl
theorem y4:(sF w os).heap.isNs builtinsNs=true:=by kernel_rfl
theorem y5:tablesOk aaR (sF w os).heap=true:=by kernel_rfl
theorem y6:XT (sF w os)=true:=by kernel_rfl
theorem y7:((sF w os).gens.size==0)=true:=by kernel_rfl
theorem z4:tabsOk aaR (sF w os)=true:=by kernel_rfl
theorem z5:pinSeenD aaR (drecsOf aaR) (sF w os)=pinGoodD (drecsOf aaR):=by kernel_rfl
theorem z6:plainSeenE aaR (looseW aaR free) (sF w os)=plainGoodE aaR (looseW aaR free):=by kernel_rfl
theorem z7:plainSeenD aaR free (sF w os)=plainGoodD aaR free:=by kernel_rfl
theorem z8:wideSeen aaR (sF w os)=wideGood aaR:=by kernel_rfl
theorem z9:clsSeenW aaR free (sF w os)=clsGoodW aaR free:=by kernel_rfl
theorem look:SE w os=openGood aaR free:=aSQ (q:=aaR) (loose:=free) (mods:=importedModules pw.main.body) (Xt:=XT) (s:=sF w os) (z1 w os) (z2 w os) (y1 w os) (y2 w os) (y3 w os) (y4 w os) (y5 w os) (y6 w os) (y7 w os) (z4 w os) (z5 w os) (z6 w os) (z7 w os) (z8 w os) (z9 w os)
end
theorem lk0(w:World)(os:OsState):(staticsOk (importedModules pw.main.body) (boot_heap w.params) (hF w.params)&&namesBound pw (hF w.params)
  &&gensDone (sF w os)&&laidKept (boot_heap w.params) (hF w.params))=true:=by kernel_rfl
section
set_option Elab.async false
local macro_rules
  | `(tactic| o_head $H) => `(tactic| (have kk := $H; assumption))
theorem d0(h:PySem.Challenge.rw_fivefields_k51_next_walked.row.Holds):PySem.Challenge.rw_fivefields_k51_next_walked.row.Holds:=by
 w_on
 k_head
end
theorem kk(w:World)(os:OsState):((d0.heap_1 w.params).map fun p=>p.1).map (sF w os).heap.get? =(d0.heap_1 w.params).map fun p=>some p.2:=by
 iterate 3 (refine aQW 190 ?_ ?_;(· as_aux_lemma=>kernel_rfl))
 as_aux_lemma=>kernel_rfl
abbrev rR:OpenRow:=OpenLaw.row PySem.Challenge.rw_fivefields_k51_next_walked
def as0:List Addr:=(d0.heap_1 {strHash:=fun _=>0,shareClass:=fun _=>0,mergeTok:=fun t=>t,idOf:=fun _=>0,idOfShared:=fun _ _=>0,followText:=fun _=>true,idOfImm:=fun _=>0}).map (·.1)
theorem azT(P:Params):as0=(d0.heap_1 P).map (·.1):=by kernel_rfl
theorem lft:LeftO rR.prog aaR free XT (kHook d0.heap_1 as0 azT).obs (kHook d0.heap_1 as0 azT).val 13888:=by
 refine LeftO.of_pieces opn siz run rfl ?_
 intro w
 funext os
 refine looks_pair (lk0 w os) (looks_pair (look w os) ?_)
 show as0.map (sF w os).heap.get? =(d0.heap_1 w.params).map fun p=>some p.2
 rw[azT w.params]
 exact kk w os
theorem dS:(defOf aaR rR.name).isSome=true:=by kernel_rfl
def dL:DefRec:=((defOf aaR rR.name).get dS).1
theorem h1:defOf aaR rR.name=some (dL,[]):=by kernel_rfl
theorem h2:rR.prog.theDef rR.name=some (dL.params,dL.body,dL.scope):=by kernel_rfl
theorem h3:kwWritten? dL.params.kwonlyargs dL.params.kw_defaults=some []:=by kernel_rfl
theorem h4:dL.params.defaults=[]:=by kernel_rfl
theorem h5:dL.name="law":=by kernel_rfl
theorem h6:(!rR.writes||rR.records.isEmpty)=true:=by kernel_rfl
theorem h7:(chainsOk aaR&&opensWell rR.prog&&(frees rR.toRowW&&rR.within.isEmpty))=true:=by decide +kernel
theorem h8:rR.prog.bare:=⟨rfl,rfl,rfl,rfl,rfl,by decide +kernel⟩
theorem lst(said:rR.wellSaid=true)(hw:rR.toRowW.promised)
  (hc:WalkO aaR free (XL aaR read) (kHook d0.heap_1 as0 azT).says rR.toRowW dL [] fun f vs=>PySem.call f vs):rR.Holds:=
 holds_open (q:=aaR) (loose:=free) (Xt:=XT) (XP:=XL aaR read) lft (kHook d0.heap_1 as0 azT).of (kHook d0.heap_1 as0 azT).keeps
  (fun z y=>xl_of z (Bool.and_eq_true_iff.mp y).1) XL.keeps h1 h2 h3 (fun z y=>recFacts_of (Bool.and_eq_true_iff.mp y).2) h6 said h7 h8 hw hc
theorem ah4:((recsOf aaR).find? (fun e=>e.name==Str.ofString "next_from")).isSome=true:=by kernel_rfl
theorem arJ:(recsOf aaR).find? (fun e=>e.name==Str.ofString "next_from")=some (((recsOf aaR).find? (fun e=>e.name==Str.ofString "next_from")).get ah4):=(Option.some_get ah4).symm
theorem aqV(P:Params):tabIn (d0.heap_1 P) "next_from"=some (305,301):=by kernel_rfl
theorem ap4(P:Params):(d0.heap_1 P).lookup 301=none:=by kernel_rfl
theorem tb(w:World)(h:Heap)(mean:ExcName->Option Value)(mg mb:Str->Option Value)(X:(d0.heap_1 w.params).In h)(T:Top aaR (looseW aaR free) mean mg mb h):∀b∈[301],(isCodeTable h b/\h.get? b=some (tabObj #[]))/\(d0.heap_1 w.params).lookup b=none:=by
 intro b hb
 simp only[List.mem_cons,List.not_mem_nil,or_false] at hb
 rcases hb with rfl
 ·obtain⟨h1,h2⟩:=tab_of T X arJ (aqV w.params)
  exact⟨⟨(h1.tab h2).isCodeTable,h2⟩,ap4 w.params⟩
theorem bi4(P:Params):nsIn (d0.heap_1 P) mainGlobals "__builtins__"=some (some (.ref 4)):=by kernel_rfl
theorem bl4(P:Params):(d0.heap_1 P).lookup 4=none:=by kernel_rfl
theorem tbm(w:World)(h:Heap)(mg:Str->Option Value)(X:(d0.heap_1 w.params).In h)(G:h.Ns mainGlobals mg):mg "__builtins__"=some (.ref 4)/\(d0.heap_1 w.params).lookup 4=none:=⟨mg_of X G (bi4 w.params),bl4 w.params⟩
end
end
end Hd
local macro_rules
  | `(⟨$xs,*⟩)=>do
    let s:=xs.getElems
    if s.any (fun y=>match y with|`(())=>true|`((()))=>true|_=>false) then
      let mut z:Array (Lean.TSyntax `term):=#[]
      for y in s do
        match y with
        | `(())=>z:=(z.push (<-`(_))).push (<-`(rfl))
        | `((()))=>z:=(((z.push (<-`(_))).push (<-`(_))).push (<-`(rfl))).push (<-`(rfl))
        | _=>z:=z.push y
      `(⟨$z,*⟩)
    else Lean.Macro.throwUnsupported
local macro_rules
  | `(⋯)=>`(by omega)
local macro_rules
  | `(tactic|trivial)=>`(tactic|(intro _ _ _ _ h;repeat first|(have e:=h.1;subst e;rfl)|obtain⟨_,h⟩:=h))
set_option Elab.async false
set_option linter.all false
set_option maxRecDepth 100000
namespace L2
open PySem PySem.Spec PyProof.Rows
abbrev FG:=PySem.W.Frag
abbrev eK:=@wpAny_passesOwn
abbrev eO:=@wpAny_newObj_type
abbrev eP:=@wpAny_bind
abbrev eQ:=@wpAny_mono
abbrev eT:=@wpAny_setState_of
abbrev eU:=@sizeLine_eq
abbrev eV:=@wpAny_holding
abbrev eX:=@codeAny_mono
abbrev eY:=@of_decide_eq_true
abbrev eZ:=@decide_eq_true
abbrev fA:=@boot_range
abbrev fB:=@decide_eq_true_eq
abbrev fC:=@decide_eq_false
abbrev fE:=@wpAny_Call_Name_kw
abbrev fF:=@wpAny_pure
abbrev fG:=@wpAny_truthy_bool
abbrev aQ:=@Nat.le_refl
abbrev aR:=@List.length_map
abbrev aS:=@Int.le_refl
abbrev aU:=@Heap.get?_push_of_some
abbrev aV:=@Heap.lt_size
abbrev aW:=@Nat.ne_of_lt
abbrev aX:=@List.mem_cons
abbrev aY:=@List.length_append
abbrev aZ:=@Option.some.inj
abbrev a8:=@Bool.false_ne_true
abbrev a9:=@Heap.get?_push_size
abbrev bA:=@Nat.lt_of_lt_of_le
abbrev bB:=@List.map_append
abbrev bC:=@List.getElem?_map
abbrev bD:=@List.mem_map
abbrev bE:=@List.mem_cons_self
abbrev bF:=@List.mem_cons_of_mem
abbrev bG:=@List.map_cons
abbrev bH:=@Bool.and_eq_true
abbrev bI:=@List.size_toArray
abbrev bJ:=@List.mem_singleton
abbrev bK:=@Int.toNat_of_nonneg
abbrev bL:=@Nat.le_trans
abbrev bM:=@Nat.zero_le
abbrev bN:=@Int.le_of_lt
abbrev bO:=@List.mem_append
abbrev bP:=@Int.toNat_natCast
abbrev bQ:=@List.any_cons
abbrev bR:=@Int.le_trans
abbrev bS:=@Array.length_toList
abbrev bU:=@List.mem_of_getElem?
abbrev bV:=@List.all_eq_true
abbrev bW:=@List.getElem?_eq_getElem
abbrev bX:=@List.length_singleton
abbrev bY:=@List.map_map
abbrev bZ:=@List.length_cons
abbrev b8:=@List.take_succ
abbrev b9:=@Int.lt_or_le
abbrev cC:=@List.getElem?_eq_some_iff
abbrev cD:=@List.mem_append_right
abbrev cE:=@Heap.get?_update_other
abbrev cF:=@List.not_mem_nil
abbrev cG:=@Int.emod_nonneg
abbrev cH:=@Int.eq_ofNat_of_zero_le
abbrev cI:=@Array.getElem?_toList
abbrev cJ:=@List.length_range
abbrev cL:=@Nat.lt_or_ge
abbrev cM:=@Bool.and_false
abbrev cN:=@List.any_eq_true
abbrev cQ:=@List.take_length
abbrev cR:=@Nat.lt_irrefl
abbrev cT:=@List.mem_range
abbrev cU:=@List.append_nil
abbrev cV:=@Heap.get?_update_self
abbrev cW:=@Bool.or_eq_true
abbrev cX:=@Array.getElem?_eq_getElem
abbrev cY:=@Bool.true_and
abbrev cZ:=@Bool.false_and
abbrev c8:=@Bool.eq_iff_iff
abbrev c9:=@Heap.size_push
abbrev dA:=@Nat.lt_succ_of_lt
abbrev dB:=@Nat.not_lt_zero
abbrev dC:=@List.any_eq_false
abbrev dD:=@Nat.lt_succ_self
abbrev dE:=@List.length_take
abbrev dF:=@Int.emod_lt_of_pos
abbrev dG:=@Bool.false_or
abbrev dH:=@List.length_drop
abbrev dI:=@List.flatten_cons
abbrev dJ:=@List.pairwise_cons
abbrev dM:=@Nat.eq_of_beq_eq_true
abbrev dN:=@List.filterMap_cons
abbrev dO:=@Int.natCast_nonneg
abbrev dP:=@Option.isSome_iff_exists
abbrev dQ:=@List.length_replicate
abbrev dR:=@List.lookup_cons
abbrev dU:=@Option.map_some
abbrev dW:=@Int.ediv_nonneg
abbrev dX:=@List.find?_cons
abbrev dY:=@List.cons_ne_nil
abbrev dZ:=@List.mem_append_left
abbrev d7:=@List.replicate_succ
abbrev d8:=@List.append_assoc
abbrev d9:=@Nat.lt_of_le_of_lt
abbrev eC:=@List.take_of_length_le
abbrev eE:=@List.getElem?_eq_none
abbrev eF:=@List.filterMap_append
abbrev eG:=@List.getD_eq_getElem?_getD
abbrev eJ:=@Array.getElem?_eq_none
noncomputable abbrev Key:=Sum Int Str
noncomputable def apG:Key->Value->Bool
 |.inl k,v=>Value.isInt k v
 |.inr x,v=>Value.isStrOf x v
noncomputable def keyH(w:World):Key->Int
 |.inl k=>hashInt k
 |.inr x=>hashStr w x
theorem abI:∀{k:Key} {v:Value},apG k v=true->(∃i t,k=Sum.inl i/\v=Value.int i t)∨(∃x t,k=Sum.inr x/\v=Value.str x t)
 |.inl i,v,h=>by
  obtain⟨t,e⟩:=Value.isInt_shape (k:=i) (v:=v) h;exact .inl ⟨i,t,rfl,e⟩
 |.inr x,v,h=>by
  obtain⟨t,e⟩:=Value.isStrOf_shape (x:=x) (v:=v) h;exact .inr ⟨x,t,rfl,e⟩
theorem ay4(i:Int)(t:Tok):apG (.inl i) (.int i t)=true:=by simp[apG,Value.isInt]
theorem ayS(x:Str)(t:Tok):apG (.inr x) (.str x t)=true:=by simp[apG,Value.isStrOf]
theorem aH6(a b:Int):decide ((Sum.inl a:Key)=Sum.inl b)=(a==b):=by
 by_cases e:a=b
 ·subst e;simp
 ·have h:¬(Sum.inl a:Key)=Sum.inl b:=λq=>e (Sum.inl.inj q);rw[fC h];exact (beq_eq_false_iff_ne.mpr e).symm
theorem aJP(a b:Str):decide ((Sum.inr a:Key)=Sum.inr b)=decide (a=b):=by
 by_cases e:a=b
 ·subst e;simp
 ·have h:¬(Sum.inr a:Key)=Sum.inr b:=λq=>e (Sum.inr.inj q);rw[fC h,fC e]
theorem aKT(a:Int)(b:Str):decide ((Sum.inl a:Key)=Sum.inr b)=false:=fC (λq=>nomatch q)
theorem aJW(a:Str)(b:Int):decide ((Sum.inr a:Key)=Sum.inl b)=false:=fC (λq=>nomatch q)
noncomputable def abK(prog:Program)(w:World):PySem.KeyKind prog w Key where
 is:=apG
 hash:=keyH w
 inj:=λv a b ha hb=>by
  rcases abI ha with ⟨i,t,rfl,rfl⟩ | ⟨x,t,rfl,rfl⟩
  ·rcases abI hb with ⟨j,u,rfl,e⟩ | ⟨y,u,rfl,e⟩
   ·injection e with e1 _;rw[e1]
   ·exact nomatch e
  ·rcases abI hb with ⟨j,u,rfl,e⟩ | ⟨y,u,rfl,e⟩
   ·exact nomatch e
   ·injection e with e1 _;rw[e1]
 byValue:=λk v h=>by
  rcases abI h with ⟨i,t,rfl,rfl⟩ | ⟨x,t,rfl,rfl⟩<;>rfl
 pyHash:=λhv h=>by
  rcases abI hv with ⟨i,t,rfl,rfl⟩ | ⟨x,t,rfl,rfl⟩
  ·exact wpAny_pyHash_int h
  ·exact wpAny_pyHash_str h
 eqBool:=λhu hv h=>by
  rcases abI hu with ⟨i,t,rfl,rfl⟩ | ⟨x,t,rfl,rfl⟩
  ·rcases abI hv with ⟨j,u,rfl,rfl⟩ | ⟨y,u,rfl,rfl⟩
   ·rw[aH6] at h;exact wpAny_eqBool_int h
   ·rw[aKT] at h;exact SeqAt.EqAt.int_str i t y u _ _ _ _ h
  ·rcases abI hv with ⟨j,u,rfl,rfl⟩ | ⟨y,u,rfl,rfl⟩
   ·rw[aJW] at h;exact SeqAt.EqAt.str_int x t j u _ _ _ _ h
   ·rw[aJP] at h;exact wpAny_eqBool_str h
 «strs»:=λk x t v h=>by
  rcases abI h with ⟨i,u,rfl,e⟩ | ⟨y,u,rfl,e⟩
  ·exact nomatch e
  ·injection e with e1 _;subst e1;cases v<;>rfl
theorem auK(prog:Program)(w:World)(i:Int)(t:Tok):(abK prog w).is (.inl i) (.int i t)=true:=ay4 i t
theorem atX(prog:Program)(w:World)(x:Str)(t:Tok):(abK prog w).is (.inr x) (.str x t)=true:=ayS x t
inductive V where
 |non | bl (b:Bool) | int (i:Int) | str (x:Str) | byt (b:Array UInt8) | flt (b:UInt64) | ref (a:Addr) | ty (n:String)
 deriving DecidableEq
def RelV:V->Value->Prop
 |.non,u=>u=Value.none
 |.bl b,u=>u=Value.bool b
 |.int i,u=>∃t,u=Value.int i t
 |.str x,u=>∃t,u=Value.str x t
 |.byt b,u=>∃t,u=Value.bytes b t
 |.flt b,u=>∃t,u=Value.float b t
 |.ref a,u=>u=Value.ref a
 |.ty n,u=>u=Value.type n
abbrev Vals:List V->List Value->Prop:=Paired RelV
theorem Vals.length{xs:List V}{us:List Value}(r:Vals xs us):xs.length=us.length:=Paired.length r
theorem Vals.get:∀{xs:List V} {us:List Value} {i:Nat} {x:V},Vals xs us->xs[i]? =some x->∃u,us[i]? =some u/\RelV x u
 |_,_,_,_,.nil,e=>by simp at e
 |_,_,0,_,.cons r _,e=>by simp at e;subst e;exact⟨(),r⟩
 |_,_,i+1,x,.cons _ t,e=>by
  obtain⟨u,h1,h2⟩:=Vals.get (i:=i) (x:=x) t (by simpa using e);exact⟨u,by simpa using h1,h2⟩
theorem Vals.set{x:V}{u:Value}(r:RelV x u):∀{xs:List V} {us:List Value} (i:Nat),Vals xs us->Vals (xs.set i x) (us.set i u)
 |_,_,_,.nil=>.nil
 |_,_,0,.cons _ t=>.cons r t
 |_,_,i+1,.cons q t=>.cons q (Vals.set r i t)
theorem Vals.append:∀{xs ys:List V} {us ws:List Value},Vals xs us->Vals ys ws->Vals (xs++ys) (us++ws)
 |_,_,_,_,.nil,s=>s
 |_,_,_,_,.cons r t,s=>.cons r (Vals.append t s)
theorem Vals.take:∀{xs:List V} {us:List Value} (n:Nat),Vals xs us->Vals (xs.take n) (us.take n)
 |_,_,0,_=>.nil
 |_,_,_+1,.nil=>.nil
 |_,_,n+1,.cons r t=>.cons r (Vals.take n t)
theorem Vals.drop:∀{xs:List V} {us:List Value} (n:Nat),Vals xs us->Vals (xs.drop n) (us.drop n)
 |_,_,0,r=>r
 |_,_,_+1,.nil=>.nil
 |_,_,n+1,.cons _ t=>Vals.drop n t
def RelO:Option V->Option Value->Prop
 |some v,some u=>RelV v u
 |none,none=>True
 |_,_=>False
def KV{κ:Type}:List (κ×V)->List (κ×Value)->Prop:=Paired λ(p:κ×V) (q:κ×Value)=>p.1=q.1/\RelV p.2 q.2
noncomputable def kV:Key->V
 |.inl i=>.int i
 |.inr x=>.str x
inductive HO where
 |lst (xs:List V)
 |tup (xs:List V)
 |dK (kvs:List (Key×V)) | dT (kvs:List (List Key×V))
 |set (S:Int->Bool) (n:Nat)
 |ins (C dx:Addr) (fs:List (Str×V))
 |own (x:Addr)
 |xd (fs:List (Str×V))
 |met (f x:Addr)
 |rng (lo hi:Int)
 |frz (o:Obj) (u:HO)
 |tbl (ps:Array Value)
 |ext (φ:Heap->Prop)
noncomputable abbrev Hp:=Addr->Option HO
noncomputable def upd(H:Hp)(a:Addr)(o:HO):Hp:=λb=>if b=a then some o else H b
theorem aaA{H:Hp}{a:Addr}{o:HO}:upd H a o a=some o:=by unfold upd;rw[if_pos rfl]
theorem aaD{H:Hp}{a b:Addr}{o:HO}(h:b≠a):upd H a o b=H b:=by unfold upd;rw[if_neg h]
theorem aSB{H:Hp}{a b:Addr}{o u:HO}(h:H a=some o)(h':H b=some u)(d:o≠u):a≠b:=by
 intro e;subst e;rw[h] at h';exact d (aZ h')
theorem aaJ{H:Hp}{a b:Addr}{o:HO}(h:H a=some o)(h':H b=none):a≠b:=by
 intro e;subst e;rw[h] at h';cases h'
section
variable(P:Program)(w:World)
def ObjOk(H:Hp)(h:Heap)(a:Addr):HO->Prop
 |.lst xs=>xs.length<=sizeLine/\∃(its:List Value) (n:Nat),Vals xs its/\h.get? a=some {cls:=.type "list",data:=.seq its.toArray n}
 |.tup xs=>xs.length<=sizeLine/\∃its:List Value,Vals xs its/\IsTup h a its.toArray
 |.dK kvs=>kvs.length<=sizeLine/\(a==sysModules)=false/\∃vs,KV kvs vs/\h.DictOf (abK P w) a vs
 |.dT kvs=>kvs.length<=sizeLine/\(a==sysModules)=false/\∃xs:List (List Key×Addr×Value),
   Paired (λ(p:List Key×V) (q:List Key×Addr×Value)=>p.1=q.1/\H q.2.1=some (.tup (p.1.map kV))/\RelV p.2 q.2.2) kvs xs/\
   ∃o es ep,h.get? a=some o/\o.ExactDict/\o.data=.dict es ep/\es.toList=xs.map (entryOfKey (tupleKind (abK P w)))/\(xs.map (·.1)).Nodup
 |.set S n=>h.SetOf (intKind P w) a S n
 |.ins C dx fs=>H dx=some (.own a)/\fs.length<=1000/\dx≠a/\h.get? a=some (PySem.W.instObj C dx)/\
   ∃mA,h.Ns1 dx mA/\(∀f,RelO (fs.lookup f) (mA f))/\PySem.Within mA (fs.map (·.1))
 |.own _=>∃o,h.get? a=some o
 |.xd fs=>∃mA,h.Ns1 a mA/\∀f,RelO (fs.lookup f) (mA f)
 |.rng lo hi=>∃t u v,h.get? a=some {cls:=.type "range",data:=.fields #[.int lo t,.int hi u,.int 1 v]}
 |.frz o u=>h.get? a=some o/\ObjOk H h a u
 |.tbl ps=>h.get? a=some {cls:=.none,data:=.fields ps}
 |.met f x=>h.get? a=some (PySem.W.methodObj (.ref f) (.ref x))
 |.ext φ=>φ h/\(∃o,h.get? a=some o)/\∀h1 h2:Heap,φ h1->(∀o,h1.get? a=some o->h2.get? a=some o)->φ h2
def HOk(H:Hp)(h:Heap):Prop:=∀a o,H a=some o->ObjOk P w H h a o
end
section
variable{P:Program}{w:World}{H H':Hp}{h h':Heap}{a:Addr}{o:HO}
theorem ObjOk.lt(x:ObjOk P w H h a o):a<h.objs.size:=by
 cases o with
 |lst xs=>obtain⟨_,_,_,_,e⟩:=x;exact aV e
 |tup xs=>obtain⟨_,_,_,p⟩:=x;exact p.lt
 |dK kvs=>obtain⟨_,_,_,_,o,_,_,e,_⟩:=x;exact aV e
 |dT kvs=>obtain⟨_,_,_,_,o,_,_,e,_⟩:=x;exact aV e
 |set S n=>obtain⟨o,_,_,_,e,_⟩:=x;exact aV e
 |ins C dx fs=>obtain⟨_,_,_,e,_⟩:=x;exact aV e
 |own y=>obtain⟨_,e⟩:=x;exact aV e
 |xd fs=>obtain⟨_,⟨_,_,_,e,_⟩,_⟩:=x;exact aV e
 |rng lo hi=>obtain⟨_,_,_,e⟩:=x;exact aV e
 |frz ob u=>obtain⟨e,_⟩:=x;exact aV e
 |tbl ps=>exact aV (show h.get? a=some _ from x)
 |met f y=>exact aV (show h.get? a=some _ from x)
 |ext φ=>obtain⟨_,⟨_,e⟩,_⟩:=x;exact aV e
theorem Paired.mapP{α β:Type}{F G:α->β->Prop}:∀{l₁:List α} {l₂:List β},Paired F l₁ l₂->(∀a b,F a b->G a b)->Paired G l₁ l₂
 |_,_,.nil,_=>.nil
 |_,_,.cons r t,f=>.cons (f _ _ r) (Paired.mapP t f)
theorem Paired.imp'{α β:Type}{F G:α->β->Prop}(f:∀a b,F a b->G a b){l₁:List α}{l₂:List β}(r:Paired F l₁ l₂):Paired G l₁ l₂:=Paired.mapP r f
theorem ObjOk.stay(x:ObjOk P w H h a o)(k:∀b u,(b=a∨H b=some (.own a))->h.get? b=some u->h'.get? b=some u)
  (ho:∀b,H b=some (.own a)->H' b=some (.own a)) (ht:∀b xs,H b=some (.tup xs)->H' b=some (.tup xs)):ObjOk P w H' h' a o:=by
 induction o with
 |lst xs=>obtain⟨z,its,n,r,e⟩:=x;exact⟨z,its,n,r,k _ _ (.inl rfl) e⟩
 |tup xs=>obtain⟨z,its,r,ob,e,c⟩:=x;exact⟨z,its,r,ob,k _ _ (.inl rfl) e,c⟩
 |dK kvs=>obtain⟨z,y,vs,r,ob,es,ep,e,c⟩:=x;exact⟨z,y,vs,r,ob,es,ep,k _ _ (.inl rfl) e,c⟩
 |dT kvs=>
  obtain⟨z,y,xs,r,ob,es,ep,e,c⟩:=x;exact⟨z,y,xs,Paired.mapP r λp q z=>⟨z.1,ht _ _ z.2.1,z.2.2⟩,ob,es,ep,k _ _ (.inl rfl) e,c⟩
 |set S n=>obtain⟨ob,es,ep,t,e,c⟩:=x;exact⟨ob,es,ep,t,k _ _ (.inl rfl) e,c⟩
 |ins C dx fs=>
  obtain⟨d,z,ne,e,mA,⟨od,es,ep,e2,c⟩,r⟩:=x;exact⟨ho _ d,z,ne,k _ _ (.inl rfl) e,mA,⟨od,es,ep,k _ _ (.inr d) e2,c⟩,r⟩
 |own y=>obtain⟨ob,e⟩:=x;exact⟨ob,k _ _ (.inl rfl) e⟩
 |xd fs=>obtain⟨mA,⟨od,es,ep,e,c⟩,r⟩:=x;exact⟨mA,⟨od,es,ep,k _ _ (.inl rfl) e,c⟩,r⟩
 |rng lo hi=>obtain⟨t,u,v,e⟩:=x;exact⟨t,u,v,k _ _ (.inl rfl) e⟩
 |frz ob u ih=>obtain⟨e,q⟩:=x;exact⟨k _ _ (.inl rfl) e,ih q⟩
 |tbl ps=>
  have e:h.get? a=some {cls:=.none,data:=.fields ps}:=x;show h'.get? a=some {cls:=.none,data:=.fields ps};exact k a _ (.inl rfl) e
 |met f y=>
  have e:h.get? a=some (PySem.W.methodObj (.ref f) (.ref y)):=x;show h'.get? a=some (PySem.W.methodObj (.ref f) (.ref y));exact k a _ (.inl rfl) e
 |ext φ=>obtain⟨p,⟨o,e⟩,st⟩:=x;exact⟨st _ _ p λo q=>k _ _ (.inl rfl) q,⟨o,k _ _ (.inl rfl) e⟩,st⟩
theorem HOk.lt(x:HOk P w H h)(e:H a=some o):a<h.objs.size:=(x a o e).lt
theorem HOk.fresh(x:HOk P w H h)(e:h.objs.size<=a):H a=none:=by
 cases q:H a with
 |none=>rfl
 |some u=>exact absurd (bA (x.lt q) e) (cR _)
theorem HOk.kept(x:HOk P w H h)(k:∀b u,h.get? b=some u->h'.get? b=some u):HOk P w H h':=λa o e=>
 (x a o e).stay (λb u _ q=>k b u q) (λ_ q=>q) λ_ _ q=>q
theorem HOk.laid(x:HOk P w H h)(k:∀b u,h.get? b=some u->h'.get? b=some u)(hp:h.objs.size<=a)(new:ObjOk P w (upd H a o) h' a o):HOk P w (upd H a o) h':=λb u e=>by
 have hn:=x.fresh hp;by_cases hb:b=a
 ·subst hb;rw[aaA] at e;cases e;exact new
 ·rw[aaD hb] at e;exact (x b u e).stay (λc v _ q=>k c v q) (λc q=>by rw[aaD (aaJ q hn)];exact q) λc xs q=>by rw[aaD (aaJ q hn)];exact q
end
def Rd(H:Hp)(a:Addr)(u:HO):Prop:=H a=some u∨∃o,H a=some (.frz o u)
theorem Rd.ok{P:Program}{w:World}{H:Hp}{h:Heap}{a:Addr}{u:HO}(r:Rd H a u)(x:HOk P w H h):ObjOk P w H h a u:=by
 rcases r with r | ⟨o,r⟩
 ·exact x a u r
 ·obtain⟨_,q⟩:=x a _ r;exact q
def Mut:Option HO->Prop
 |some (.lst _)=>True
 |some (.dK _)=>True
 |some (.dT _)=>True
 |some (.set _ _)=>True
 |some (.ins _ _ _)=>True
 |some (.ext _)=>True
 |_=>False
section
variable{P:Program}{w:World}{H:Hp}{h h':Heap}{x e:Addr}{o':HO}
theorem HOk.write(ok:HOk P w H h)(mu:Mut (H x))(he:e=x∨H e=some (.own x))(k:∀b u,b≠e->h.get? b=some u->h'.get? b=some u)(heo:∃u,h'.get? e=some u)
  (new:ObjOk P w (upd H x o') h' x o'):HOk P w (upd H x o') h':=λb u q=>by
 have nown:∀c y,H c=some (.own y)->c≠x:=λc y r z=>by subst z;rw[r] at mu;exact mu
 have ntup:∀c xs,H c=some (.tup xs)->c≠x:=λc xs r z=>by subst z;rw[r] at mu;exact mu
 by_cases hb:b=x
 ·subst hb;rw[aaA] at q;cases q;exact new
 ·rw[aaD hb] at q;by_cases hbe:b=e
  ·have q':H b=some (.own x):=by
    rcases he with z | z
    ·exact absurd (hbe.trans z) hb
    ·rw[hbe];exact z
   rw[q] at q';cases q';obtain⟨v,hv⟩:=heo;exact⟨v,by rw[hbe];exact hv⟩
  ·refine (ok b u q).stay (λc v hc r=>k c v ?_ r) (λc r=>by rw[aaD (nown c b r)];exact r) λc xs r=>by rw[aaD (ntup c xs r)];exact r
   rcases hc with rfl | hc
   ·exact hbe
   ·rintro rfl;rcases he with z | z
    ·exact nown c b hc z
    ·rw[hc] at z;cases z;exact hb rfl
end
structure Un(fs ex:List Addr)(H H':Hp)(h h':Heap):Prop where
 keep:∀b o,h.get? b=some o->H b=none->b∉fs->b∉ex->h'.get? b=some o
 slot:∀b o,h.get? b=some o->H b=none->b∈fs->b∉ex->∃sl,h'.get? b=some {o with slots:=sl}
 free:∀b o,h.get? b=some o->H b=none->b∉ex->H' b=none
 there:∀b o,h.get? b=some o->b∉ex->∃o',h'.get? b=some o'
 tups:∀b xs,H b=some (.tup xs)->H' b=some (.tup xs)
 frzs:∀b o u,H b=some (.frz o u)->H' b=some (.frz o u)
 tbls:∀b ps,H b=some (.tbl ps)->∃more,H' b=some (.tbl (ps++more))
section
variable{fs fs' ex ex':List Addr}{H H1 H2:Hp}{h h1 h2 h':Heap}{a x e:Addr}{o:HO}
theorem Un.any(u:Un fs ex H H1 h h1){b:Addr}{ob:Obj}(q:h.get? b=some ob)(n:H b=none)(hx:b∉ex):∃sl,h1.get? b=some {ob with slots:=sl}:=by
 by_cases hb:b∈fs
 ·exact u.slot b ob q n hb hx
 ·exact⟨ob.slots,u.keep b ob q n hb hx⟩
theorem Un.trans(a:Un fs ex H H1 h h1)(b:Un fs ex H1 H2 h1 h2):Un fs ex H H2 h h2 where
 keep:=λc ob q n hc hx=>b.keep c ob (a.keep c ob q n hc hx) (a.free c ob q n hx) hc hx
 slot:=λc ob q n hc hx=>by
  obtain⟨sl,e1⟩:=a.slot c ob q n hc hx;obtain⟨sl',e2⟩:=b.slot c _ e1 (a.free c ob q n hx) hc hx;exact⟨sl',e2⟩
 free:=λc ob q n hx=>by
  obtain⟨o',e1⟩:=a.there c ob q hx;exact b.free c o' e1 (a.free c ob q n hx) hx
 there:=λc ob q hx=>by
  obtain⟨o',e1⟩:=a.there c ob q hx;exact b.there c o' e1 hx
 tups:=λc xs q=>b.tups c xs (a.tups c xs q)
 frzs:=λc ob xs q=>b.frzs c ob xs (a.frzs c ob xs q)
 tbls:=λc ps q=>by
  obtain⟨m1,e1⟩:=a.tbls c ps q;obtain⟨m2,e2⟩:=b.tbls c _ e1;exact⟨m1++m2,by rw[e2,Array.append_assoc]⟩
theorem Un.kept(k:∀b u,h.get? b=some u->h'.get? b=some u):Un fs ex H H h h':=
 ⟨λb ob q _ _ _=>k b ob q,λb ob q _ _ _=>⟨ob.slots,k b ob q⟩,λ_ _ _ n _=>n,λb ob q _=>⟨ob,k b ob q⟩,λ_ _ q=>q,λ_ _ _ q=>q,λ_ ps q=>⟨#[],by rw[q];simp⟩⟩
theorem Un.refl:Un fs ex H H h h:=Un.kept λ_ _ q=>q
theorem Un.laid(k:∀b u,h.get? b=some u->h'.get? b=some u)(hp:h.objs.size<=a)(hn:H a=none):Un fs ex H (upd H a o) h h' where
 keep:=λb u q _ _ _=>k b u q
 slot:=λb u q _ _ _=>⟨u.slots,k b u q⟩
 free:=λb u q n _=>by rw[aaD (aW (bA (aV q) hp))];exact n
 there:=λb u q _=>⟨u,k b u q⟩
 tups:=λb xs q=>by rw[aaD (aaJ q hn)];exact q
 frzs:=λb u xs q=>by rw[aaD (aaJ q hn)];exact q
 tbls:=λb ps q=>⟨#[],by rw[aaD (aaJ q hn),q];simp⟩
theorem Un.write(mu:Mut (H x))(he:e=x∨H e=some (.own x))(k:∀b u,b≠e->h.get? b=some u->h'.get? b=some u)(heo:∃u,h'.get? e=some u):Un fs ex H (upd H x o) h h':=by
 have hx:∀b,H b=none->b≠x:=λb n z=>by subst z;rw[n] at mu;exact mu
 have hb:∀b,H b=none->b≠e:=λb n z=>by
  subst z;rcases he with r | r
  ·exact hx b n r
  ·rw[n] at r;cases r
 have hm:∀b u,H b=some u->¬Mut (some u)->b≠x:=λb u q nm z=>by subst z;rw[q] at mu;exact nm mu
 refine⟨λb u q n _ _=>k b u (hb b n) q,λb u q n _ _=>⟨u.slots,k b u (hb b n) q⟩,λb u q n _=>by rw[aaD (hx b n)];exact n,λb u q _=>?_,
  λb xs q=>by rw[aaD (hm b _ q λz=>z)];exact q,λb u xs q=>by rw[aaD (hm b _ q λz=>z)];exact q,λb ps q=>⟨#[],by rw[aaD (hm b _ q λz=>z),q];simp⟩⟩
 by_cases hbe:b=e
 ·subst hbe;exact heo
 ·exact⟨u,k b u hbe q⟩
end
noncomputable def trk(h:Heap)(H:Hp):List Addr:=(List.range h.objs.size).filter λa=>(H a).isSome
noncomputable def ap5(h:Heap)(H:Hp):Heap:=PySem.W.hideAll h (trk h H)
theorem ay7(h:Heap)(H:Hp):(ap5 h H).objs.size=h.objs.size:=PySem.W.hideAll_size _ _
theorem aDK{h:Heap}{H:Hp}{b:Addr}{o:Obj}(e:h.get? b=some o)(n:H b=none):(ap5 h H).get? b=some o:=
 PySem.W.hideAll_get _ e λhm=>by
  have q:(H b).isSome=true:=(List.mem_filter.mp hm).2;rw[n] at q;simp at q
theorem aGA{h:Heap}{H:Hp}{b:Addr}{o:Obj}(e:(ap5 h H).get? b=some o):h.get? b=some o/\H b=none:=by
 have e':h.get? b=some o:=PySem.W.of_hideAll (trk h H) e;refine⟨e',?_⟩;cases q:H b with
 |none=>rfl
 |some x=>
  have hm:b∈trk h H:=List.mem_filter.mpr ⟨cT.mpr (aV e'),by simp[q]⟩;have z:(ap5 h H).get? b=none:=PySem.W.hideAll_none (trk h H) hm;rw[z] at e;cases e
structure Mod(K:FG)(mg:Str->Option Value)(base:Heap):Prop where
 kin:K.In base
 glob:base.Ns mainGlobals mg
 blt:∃mb,base.Ns builtinsNs mb/\∀x:Str,x≠"__name__"->mb x=bootBuiltins x
 nolimit:base.NoLimit
structure Cx where
 prog:Program
 w:World
 K:FG
 mg:Str->Option Value
 base:Heap
 A:Around
 N:List Str
 s₀:Shared
 H₀:Hp
 env:Env
 outer:List Env
 stack:List Env
 ex:List Addr
 fn:Str->Bool
 calm:Bool
 pn:List (Addr×Obj)
 xe:Value->Shared->Prop
noncomputable def frs(l:List Env):List Addr:=l.filterMap (·.frame)
noncomputable abbrev Cx.fs(X:Cx):List Addr:=frs X.outer
def Vis(sc:Scope)(x:Str):Prop:=sc.names.lookup x=some .local∨sc.names.lookup x=some .cell∨sc.names.lookup x=some .free
def Loc(sc:Scope)(x:Str):Prop:=sc.names.lookup x=some .local∨sc.names.lookup x=some .cell
def Look(env:Env)(h:Heap)(m:Str->Option Value)(x:Str)(u:Value):Prop:=
 (env.kindOf x=some .local/\m x=some u)∨((env.kindOf x=some .cell∨env.kindOf x=some .free)/\∃c,env.cells.lookup x=some c/\h.IsCell c (some u))
structure Cx.Ok(X:Cx):Prop where
 mod:Mod X.K X.mg X.base
 kind:X.env.scope.kind=.function
 glob:X.env.globals=mainGlobals
 blt:X.env.builtins=builtinsNs
 above:X.s₀.heap.objs.size<=X.env.locals
 inj:∀x y c,X.env.cells.lookup x=some c->X.env.cells.lookup y=some c->x=y
 has:∀x,(X.env.kindOf x=some .cell∨X.env.kindOf x=some .free)->∃c,X.env.cells.lookup x=some c
 cab:∀x c,X.fn x=true->X.env.cells.lookup x=some c->X.s₀.heap.objs.size<=c
 hd:X.calm=true->X.A.handled=none
 frames:X.A.frames=some X.stack
 stk:X.stack=X.outer∨(X.stack=X.env::X.outer/\X.env.frame=some X.env.locals)
 exf:∀b∈X.ex,b≠X.env.locals/\∀x c,X.env.cells.lookup x=some c->c≠b
 bs:∀b o,X.base.get? b=some o->X.s₀.heap.get? b=some o/\X.H₀ b=none
 bsz:X.base.objs.size<=X.s₀.heap.objs.size
 noex:∀b o,X.base.get? b=some o->b∉X.ex
 exfs:∀b∈X.ex,b∉X.fs
 funs:X.s₀.heap.FunFrames X.base X.outer
 frf:∀b∈X.fs,X.H₀ b=none
structure Inv(X:Cx)(pins:List (Addr×Obj))(σ:List (Option V))(H:Hp)(s:Shared):Prop where
 ok:X.Ok
 os:s.os=X.s₀.os
 bare:AllBare s.gens
 base:Un X.fs X.ex X.H₀ H X.s₀.heap s.heap
 loc:∃m,s.heap.Ns X.env.locals m/\∀(i:Nat) (x:Str) (v:V),X.N[i]? =some x->σ[i]? =some (some v)->Vis X.env.scope x->∃u,RelV v u/\Look X.env s.heap m x u
 cell:∀x c,X.env.cells.lookup x=some c->∃v,s.heap.IsCell c v
 free:H X.env.locals=none
 freeC:∀x c,X.env.cells.lookup x=some c->H c=none
 pin:∀p∈X.pn++pins,s.heap.get? p.1=some p.2/\H p.1=none/\p.1≠X.env.locals/\p.1∉X.fs/\∀v,p.2.data≠ .cell v
 hok:HOk X.prog X.w H s.heap
 len:σ.length=X.N.length
section
variable{X:Cx}{pins:List (Addr×Obj)}{σ:List (Option V)}{H H':Hp}{s:Shared}{h':Heap}
theorem Cx.Ok.nofr(ok:X.Ok){b:Addr}{o:Obj}(e:X.base.get? b=some o):b∉X.fs:=λhb=>by
 have:=(ok.funs.mem hb).1;rw[e] at this;cases this
theorem Inv.bs(I:Inv X pins σ H s):∀b o,X.base.get? b=some o->s.heap.get? b=some o/\H b=none:=λb o e=>
 ⟨I.base.keep b o (I.ok.bs b o e).1 (I.ok.bs b o e).2 (I.ok.nofr e) (I.ok.noex b o e),I.base.free b o (I.ok.bs b o e).1 (I.ok.bs b o e).2 (I.ok.noex b o e)⟩
theorem Inv.bk(I:Inv X pins σ H s):∀b o,X.base.get? b=some o->s.heap.get? b=some o:=λb o e=>(I.bs b o e).1
theorem Inv.mod(I:Inv X pins σ H s):Mod X.K X.mg X.base:=I.ok.mod
theorem Inv.kIn(I:Inv X pins σ H s):X.K.In s.heap:=I.ok.mod.kin.keeps I.bk
theorem Inv.nolimit(I:Inv X pins σ H s):s.heap.NoLimit:=I.ok.mod.nolimit.keeps I.bk
theorem Inv.lt(I:Inv X pins σ H s):X.env.locals<s.heap.objs.size:=let ⟨_,hn,_⟩:=I.loc;hn.lt
theorem Inv.sz(I:Inv X pins σ H s):X.s₀.heap.objs.size<=s.heap.objs.size:=bL I.ok.above (Nat.le_of_lt I.lt)
theorem Inv.nofs(I:Inv X pins σ H s){a:Addr}(h:s.heap.objs.size<=a):a∉X.fs:=λhb=>by
 obtain⟨_,o,ho,_⟩:=I.ok.funs.mem hb;exact absurd (bA (aV ho) (bL I.sz h)) (cR _)
theorem Inv.cne(I:Inv X pins σ H s):∀x c,X.env.cells.lookup x=some c->c≠X.env.locals:=λx c e z=>by
 obtain⟨v,o,ho,hd⟩:=I.cell x c e;obtain⟨m,⟨o',es,ep,ho',hd',_⟩,_⟩:=I.loc;rw[z,ho'] at ho;cases ho;rw[hd'] at hd;cases hd
theorem Inv.funs(I:Inv X pins σ H s):s.heap.FunFrames X.base X.outer:=by
 have all:∀(l:List Env),(∀b∈frs l,b∈X.fs)->X.s₀.heap.FunFrames X.base l->s.heap.FunFrames X.base l:=by
  intro l;induction l with
  |nil=>intro _ _;trivial
  |cons env r ih=>
   intro hs hl;obtain⟨hk,⟨L,o,hf,hn,ho,hd⟩,hr⟩:=hl;have hL:L∈X.fs:=hs L (by unfold frs;rw[dN,hf];exact bE);obtain⟨sl,e⟩:=I.base.slot L o ho (I.ok.frf L hL) hL λz=>I.ok.exfs L z hL;exact⟨hk,⟨L,_,hf,hn,e,hd⟩,ih (λb hb=>hs b (by unfold frs;rw[dN,hf];exact bF _ hb)) hr⟩
 exact all X.outer (λ_ hb=>hb) I.ok.funs
theorem Inv.stack(I:Inv X pins σ H s):s.heap.FunFrames X.base X.stack:=by
 rcases I.ok.stk with e | ⟨e,hf⟩
 ·rw[e];exact I.funs
 ·rw[e];obtain⟨m,hn,_⟩:=I.loc;refine .cons (by rw[I.ok.kind];decide) hf hn ?_ I.funs;exact Heap.get?_none_of_le (bL I.ok.bsz I.ok.above)
theorem Inv.stkSub(I:Inv X pins σ H s):∀b∈frs X.stack,b∈X.env.locals::X.fs:=λb hb=>by
 rcases I.ok.stk with e | ⟨e,hf⟩
 ·rw[e] at hb;exact bF _ hb
 ·rw[e] at hb;unfold frs at hb;rw[dN,hf] at hb;exact hb
theorem Inv.stkFree(I:Inv X pins σ H s):∀b∈frs X.stack,H b=none:=λb hb=>by
 rcases aX.mp (I.stkSub b hb) with e | hb
 ·rw[e];exact I.free
 ·obtain⟨_,o,ho,_⟩:=I.ok.funs.mem hb;exact I.base.free b o ho (I.ok.frf b hb) λz=>I.ok.exfs b z hb
theorem Inv.step{g':Array GenState}{t':Nat}{d':Drawn}{ch:List Addr}(I:Inv X pins σ H s)
  (hch:∀b∈ch,(b∈X.ex∨X.s₀.heap.objs.size<=b)/\b≠X.env.locals/\(∀x c,X.env.cells.lookup x=some c->c≠b)/\∀p∈X.pn++pins,p.1≠b)
  (keep:∀b o,b≠X.env.locals->b∉X.fs->b∉ch->s.heap.get? b=some o->H b=none->h'.get? b=some o)
  (slot:∀b o,b≠X.env.locals->b∈X.fs->b∉ch->s.heap.get? b=some o->H b=none->∃sl,h'.get? b=some {o with slots:=sl}) (free:∀b o,b∉ch->s.heap.get? b=some o->H b=none->H' b=none)
  (there:∀b o,b∉ch->s.heap.get? b=some o->∃o',h'.get? b=some o')
  (tups:∀b xs,H b=some (.tup xs)->H' b=some (.tup xs)) (frzs:∀b o u,H b=some (.frz o u)->H' b=some (.frz o u)) (tbls:∀b ps,H b=some (.tbl ps)->∃more,H' b=some (.tbl (ps++more)))
  (ns:∀m,s.heap.Ns X.env.locals m->h'.Ns X.env.locals m) (hok:HOk X.prog X.w H' h') (hg:AllBare g'):
  Inv X pins σ H' {s with heap:=h',gens:=g',drawn:=d',toks:=t'}:=by
 have neL:∀b o,X.s₀.heap.get? b=some o->b≠X.env.locals:=λb o e=>aW (bA (aV e) I.ok.above);have neC:∀b o,X.s₀.heap.get? b=some o->b∉X.ex->b∉ch:=λb o e hx hb=>by
  rcases (hch b hb).1 with z | z
  ·exact hx z
  ·exact absurd (bA (aV e) z) (cR _)
 have cellK:∀x c,X.env.cells.lookup x=some c->∀v,s.heap.IsCell c v->h'.IsCell c v:=λx c e v ⟨o,ho,hd⟩=>by
  have nch:c∉ch:=λz=>(hch c z).2.2.1 x c e rfl;by_cases hc:c∈X.fs
  ·obtain⟨sl,q⟩:=slot c o (I.cne x c e) hc nch ho (I.freeC x c e);exact⟨_,q,hd⟩
  ·exact⟨o,keep c o (I.cne x c e) hc nch ho (I.freeC x c e),hd⟩
 refine⟨I.ok,I.os,hg,⟨λb o e n hb hx=>?_,λb o e n hb hx=>?_,λb o e n hx=>?_,λb o e hx=>?_,λb xs e=>tups b xs (I.base.tups b xs e),λb o xs e=>frzs b o xs (I.base.frzs b o xs e),λb ps e=>?_⟩,?_,λx c e=>?_,?_,λx c e=>?_,λp hp=>?_,hok,I.len⟩
 ·exact keep b o (neL b o e) hb (neC b o e hx) (I.base.keep b o e n hb hx) (I.base.free b o e n hx)
 ·obtain⟨sl,e1⟩:=I.base.slot b o e n hb hx;obtain⟨sl',e2⟩:=slot b _ (neL b o e) hb (neC b o e hx) e1 (I.base.free b o e n hx);exact⟨sl',e2⟩
 ·obtain⟨o',e1⟩:=I.base.there b o e hx;exact free b o' (neC b o e hx) e1 (I.base.free b o e n hx)
 ·obtain⟨o',e1⟩:=I.base.there b o e hx;exact there b o' (neC b o e hx) e1
 ·obtain⟨m1,e1⟩:=I.base.tbls b ps e;obtain⟨m2,e2⟩:=tbls b _ e1;exact⟨m1++m2,by rw[e2,Array.append_assoc]⟩
 ·obtain⟨m,hn,hl⟩:=I.loc;refine⟨m,ns m hn,λi x v e1 e2 e3=>?_⟩;obtain⟨u,r,l⟩:=hl i x v e1 e2 e3;refine⟨u,r,?_⟩;rcases l with l | ⟨k,c,e,z⟩
  ·exact .inl l
  ·exact .inr ⟨k,c,e,cellK x c e _ z⟩
 ·obtain⟨v,z⟩:=I.cell x c e;exact⟨v,cellK x c e v z⟩
 ·obtain⟨m,⟨o,_,_,ho,_⟩,_⟩:=I.loc;exact free _ o (λz=>(hch _ z).2.1 rfl) ho I.free
 ·obtain⟨v,o,ho,hd⟩:=I.cell x c e;exact free c o (λz=>(hch c z).2.2.1 x c e rfl) ho (I.freeC x c e)
 ·obtain⟨e,n,ne,nf,d⟩:=I.pin p hp;have nch:p.1∉ch:=λz=>(hch p.1 z).2.2.2 p hp rfl;exact⟨keep p.1 p.2 ne nf nch e n,free p.1 p.2 nch e n,ne,nf,d⟩
theorem Inv.un{t':Nat}(I:Inv X pins σ H s)(u:Un X.fs [] H H' s.heap h')(hok:HOk X.prog X.w H' h'):Inv X pins σ H' {s with heap:=h',toks:=t'}:=by
 obtain⟨m,⟨o,es,ep,ho,r⟩,_⟩:=id I.loc;obtain⟨sl,hL⟩:=u.any ho I.free (by simp);exact I.step (g':=s.gens) (d':=s.drawn) (ch:=[]) (λ_ z=>nomatch z) (λb o _ hb _ e n=>u.keep b o e n hb (by simp)) (λb o _ hb _ e n=>u.slot b o e n hb (by simp)) (λb o _ e n=>u.free b o e n (by simp)) (λb o _ e=>u.there b o e (by simp)) u.tups u.frzs u.tbls (λm' hm=>by
  obtain⟨o',es',ep',ho',r'⟩:=hm;rw[ho] at ho';cases ho';exact⟨_,es',ep',hL,r'⟩) hok I.bare
theorem Inv.call{g':Array GenState}{t':Nat}{d':Drawn}{ch:List Addr}(I:Inv X pins σ H s)(u:Un (frs X.stack) ch H H' s.heap h')(hok:HOk X.prog X.w H' h')(hg:AllBare g')
  (hch:∀b∈ch,(b∈X.ex∨X.s₀.heap.objs.size<=b)/\b≠X.env.locals/\(∀x c,X.env.cells.lookup x=some c->c≠b)/\∀p∈X.pn++pins,p.1≠b):
  Inv X pins σ H' {s with heap:=h',gens:=g',drawn:=d',toks:=t'}:=by
 obtain⟨m,⟨o,es,ep,ho,r⟩,_⟩:=id I.loc;obtain⟨sl,hL⟩:=u.any ho I.free λz=>(hch _ z).2.1 rfl;exact I.step (ch:=ch) hch (λb o hL hb hc e n=>u.keep b o e n (λz=>(aX.mp (I.stkSub b z)).elim hL hb) hc) (λb o _ _ hc e n=>u.any e n hc) (λb o hc e n=>u.free b o e n hc) (λb o hc e=>u.there b o e hc) u.tups u.frzs u.tbls (λm' hm=>by
  obtain⟨o',es',ep',ho',r'⟩:=hm;rw[ho] at ho';cases ho';exact⟨_,es',ep',hL,r'⟩) hok hg
theorem Inv.turned{t':Nat}{it:Addr}(I:Inv X pins σ H s)(k:∀b o,b≠it->s.heap.get? b=some o->h'.get? b=some o)(hn:H it=none)(hL:it≠X.env.locals)
  (h1:it∈X.ex∨X.s₀.heap.objs.size<=it) (h2:∀x c,X.env.cells.lookup x=some c->c≠it) (h3:∀p∈X.pn++pins,p.1≠it):Inv X pins σ H {s with heap:=h',toks:=t'}:=by
 have nit:∀b u,H b=some u->b≠it:=λb u e z=>by rw[z,hn] at e;cases e
 refine I.step (g':=s.gens) (d':=s.drawn) (ch:=[it]) (λb hb=>?_) (λb o _ _ hc e _=>k b o (λz=>hc (by simp[z])) e) (λb o _ _ hc e _=>⟨o.slots,k b o (λz=>hc (by simp[z])) e⟩) (λ_ _ _ _ n=>n)
  (λb o hc e=>⟨o,k b o (λz=>hc (by simp[z])) e⟩) (λ_ _ e=>e) (λ_ _ _ e=>e) (λb ps e=>⟨#[],by rw[e];simp⟩) (λm hm=>?_) (λb u e=>?_) I.bare
 ·have e:b=it:=by simpa using hb
  subst e;exact⟨h1,hL,h2,h3⟩
 ·obtain⟨o,es,ep,ho,r⟩:=hm;exact⟨o,es,ep,k _ o (Ne.symm hL) ho,r⟩
 ·refine (I.hok b u e).stay (λc v hc q=>k c v ?_ q) (λ_ q=>q) λ_ _ q=>q;rcases hc with z | z
  ·rw[z];exact nit b u e
  ·exact nit c _ z
theorem Inv.tok(I:Inv X pins σ H s)(t:Nat):Inv X pins σ H {s with toks:=t}:=I.un (h':=s.heap) (t':=t) Un.refl I.hok
theorem Inv.kept{t':Nat}(I:Inv X pins σ H s)(k:∀b u,s.heap.get? b=some u->h'.get? b=some u):Inv X pins σ H {s with heap:=h',toks:=t'}:=I.un (Un.kept k) (I.hok.kept k)
theorem Inv.laid{a:Addr}{o:HO}{t':Nat}(I:Inv X pins σ H s)(k:∀b u,s.heap.get? b=some u->h'.get? b=some u)(hp:s.heap.objs.size<=a)(new:ObjOk X.prog X.w (upd H a o) h' a o):
  Inv X pins σ (upd H a o) {s with heap:=h',toks:=t'}:=I.un (Un.laid k hp (I.hok.fresh hp)) (I.hok.laid k hp new)
theorem Inv.write{x e:Addr}{o:HO}{t':Nat}(I:Inv X pins σ H s)(mu:Mut (H x))(he:e=x∨H e=some (.own x))(k:∀b u,b≠e->s.heap.get? b=some u->h'.get? b=some u)(heo:∃u,h'.get? e=some u)
  (new:ObjOk X.prog X.w (upd H x o) h' x o):Inv X pins σ (upd H x o) {s with heap:=h',toks:=t'}:=I.un (Un.write mu he k heo) (I.hok.write mu he k heo new)
theorem Inv.pins_of{pins':List (Addr×Obj)}(I:Inv X pins σ H s)(h:∀p∈pins',s.heap.get? p.1=some p.2/\H p.1=none/\p.1≠X.env.locals/\p.1∉X.fs/\∀v,p.2.data≠ .cell v):Inv X pins' σ H s:=
 ⟨I.ok,I.os,I.bare,I.base,I.loc,I.cell,I.free,I.freeC,λp hp=>(bO.mp hp).elim (λz=>I.pin p (dZ _ z)) (h p),I.hok,I.len⟩
theorem auO{N:List Str}(hN:N.Nodup){i j:Nat}{x:Str}(a:N[i]? =some x)(b:N[j]? =some x):i=j:=by
 obtain⟨h1,e1⟩:=cC.mp a;obtain⟨h2,e2⟩:=cC.mp b;exact (List.getElem_inj hN).mp (e1.trans e2.symm)
theorem aoV{M:Model}{A:Around}{E:Value->Shared->Prop}{i:Nat}{x:Str}{v:V}{u:Value}{Q:Unit->Shared->Prop}(I:Inv X pins σ H s)(hN:X.N.Nodup)(hi:X.N[i]? =some x)(hx:Loc X.env.scope x)(r:RelV v u)
  (h:∀s',Inv X pins (σ.set i (some v)) H s'->(∃a,Heap.SameBut a s.heap s'.heap/\(a=X.env.locals∨X.env.cells.lookup x=some a))->Q () s') (hf:X.fn x=true∨X.env.scope.names.lookup x=some .local:=by first | exact .inl rfl | exact .inr rfl | assumption):wpAny M A (storeName X.env x u) Q E s:=by
 obtain⟨m,hn,hl⟩:=id I.loc;have hcls:(X.env.scope.kind== .class||(X.env.scope.kind== .module&&X.env.locals !=X.env.globals))=false:=by rw[I.ok.kind];rfl
 have hiσ:i<σ.length:=by rw[I.len];exact (cC.mp hi).1
 have cne:=I.cne;have tracked:∀{a:Addr} {h':Heap},(∃o,s.heap.get? a=some o/\H a=none)->Heap.SameBut a s.heap h'->HOk X.prog X.w H h':=λ{a h'} ha hs b ob e=>by
  obtain⟨_,_,hfree⟩:=ha;refine (I.hok b ob e).stay (λc w' hc q=>(hs.2 c ?_).trans q) (λ_ q=>q) λ_ _ q=>q;rintro rfl;rcases hc with rfl | hc
  ·rw[hfree] at e;cases e
  ·rw[hfree] at hc;cases hc
 rcases hx with hk | hk
 ·refine wpAny_storeName_local hk hn (λh' hn' hs=>?_) hcls;obtain⟨oL,_,_,hoL,_⟩:=id hn;refine h _ ⟨I.ok,I.os,I.bare,⟨λb o e n hb hx=>?_,λb o e n hb hx=>?_,I.base.free,λb o e hx=>?_,I.base.tups,I.base.frzs,I.base.tbls⟩,⟨_,hn',λj y v' e1 e2 e3=>?_⟩,λy c e=>?_,I.free,I.freeC,λp hp=>?_,tracked ⟨oL,hoL,I.free⟩ hs,by simpa using I.len⟩ ⟨_,hs,.inl rfl⟩
  ·exact (hs.2 b (aW (bA (aV e) I.ok.above))).trans (I.base.keep b o e n hb hx)
  ·obtain⟨sl,e1⟩:=I.base.slot b o e n hb hx;exact⟨sl,(hs.2 b (aW (bA (aV e) I.ok.above))).trans e1⟩
  ·obtain⟨o',e1⟩:=I.base.there b o e hx;exact⟨o',(hs.2 b (aW (bA (aV e) I.ok.above))).trans e1⟩
  ·by_cases hj:j=i
   ·subst hj;rw[hi] at e1;cases e1;rw[List.getElem?_set_self hiσ] at e2;cases e2;exact⟨u,r,.inl ⟨hk,by simp⟩⟩
   ·rw[List.getElem?_set_ne (Ne.symm hj)] at e2;obtain⟨u',r',q⟩:=hl j y v' e1 e2 e3;refine⟨u',r',?_⟩;rcases q with ⟨k,e⟩ | ⟨k,c,e,z⟩
    ·refine .inl ⟨k,?_⟩;have:y≠x:=λe=>hj (auO hN e1 (e▸hi));simp[this,e]
    ·exact .inr ⟨k,c,e,z.sameBut hs (cne y c e)⟩
  ·obtain⟨w',z⟩:=I.cell y c e;exact⟨w',z.sameBut hs (cne y c e)⟩
  ·obtain⟨e,n,ne,nf,d⟩:=I.pin p hp;exact⟨(hs.2 p.1 ne).trans e,n,ne,nf,d⟩
 ·have hfn:X.fn x=true:=by
   rcases hf with z | z
   ·exact z
   ·rw[z] at hk;cases hk
  obtain⟨c,hc⟩:=I.ok.has x (.inl hk);obtain⟨w',z⟩:=I.cell x c hc;refine wpAny_storeName_cell I.ok.kind hk hc z (λh' hc' hs=>?_);obtain⟨oc,hoc,hocd⟩:=id z;refine h {s with heap:=h'} ⟨I.ok,I.os,I.bare,⟨λb o e n hb hx=>?_,λb o e n hb hx=>?_,I.base.free,λb o e hx=>?_,I.base.tups,I.base.frzs,I.base.tbls⟩,⟨m,hn.sameBut hs (Ne.symm (cne x c hc)),λj y v' e1 e2 e3=>?_⟩,λy c' e=>?_,I.free,I.freeC,λp hp=>?_,tracked ⟨oc,hoc,I.freeC x c hc⟩ hs,by simpa using I.len⟩ ⟨c,hs,.inr hc⟩
  ·exact (hs.2 b (aW (bA (aV e) (I.ok.cab x c hfn hc)))).trans (I.base.keep b o e n hb hx)
  ·obtain⟨sl,e1⟩:=I.base.slot b o e n hb hx;exact⟨sl,(hs.2 b (aW (bA (aV e) (I.ok.cab x c hfn hc)))).trans e1⟩
  ·obtain⟨o',e1⟩:=I.base.there b o e hx;exact⟨o',(hs.2 b (aW (bA (aV e) (I.ok.cab x c hfn hc)))).trans e1⟩
  ·by_cases hj:j=i
   ·subst hj;rw[hi] at e1;cases e1;rw[List.getElem?_set_self hiσ] at e2;cases e2;exact⟨u,r,.inr ⟨.inl hk,c,hc,hc'⟩⟩
   ·rw[List.getElem?_set_ne (Ne.symm hj)] at e2;obtain⟨u',r',q⟩:=hl j y v' e1 e2 e3;refine⟨u',r',?_⟩;rcases q with q | ⟨k,c',e,z'⟩
    ·exact .inl q
    ·refine .inr ⟨k,c',e,z'.sameBut hs ?_⟩;rintro rfl;exact hj (auO hN e1 (I.ok.inj _ _ _ e hc▸hi))
  ·by_cases hcc:c'=c
   ·subst hcc;exact⟨_,hc'⟩
   ·obtain⟨w2,z2⟩:=I.cell y c' e;exact⟨w2,z2.sameBut hs hcc⟩
  ·obtain⟨e,n,ne,nf,d⟩:=I.pin p hp;refine⟨(hs.2 p.1 ?_).trans e,n,ne,nf,d⟩;intro q;rw[q,hoc] at e;have q':oc=p.2:=aZ e;exact d w' (by rw[←q'];exact hocd)
theorem ahR{M:Model}{A:Around}{E:Value->Shared->Prop}{i:Nat}{x:Str}{v:V}{u:Value}{Q:Unit->Shared->Prop}(I:Inv X pins σ H s)(hN:X.N.Nodup)(hi:X.N[i]? =some x)(hx:Loc X.env.scope x)(r:RelV v u)
  (h:∀s',Inv X pins (σ.set i (some v)) H s'->Q () s') (hf:X.fn x=true∨X.env.scope.names.lookup x=some .local:=by first | exact .inl rfl | exact .inr rfl | assumption):wpAny M A (storeName X.env x u) Q E s:=
 aoV I hN hi hx r (λs' I' _=>h s' I') hf
theorem Inv.call'{s':Shared}{ch:List Addr}(I:Inv X pins σ H s)(ho:s'.os=s.os)(u:Un (frs X.stack) ch H H' s.heap s'.heap)(hok:HOk X.prog X.w H' s'.heap)(hg:AllBare s'.gens)
  (hch:∀b∈ch,(b∈X.ex∨X.s₀.heap.objs.size<=b)/\b≠X.env.locals/\(∀x c,X.env.cells.lookup x=some c->c≠b)/\∀p∈X.pn++pins,p.1≠b):Inv X pins σ H' s':=by
 obtain⟨h',g',d',t',o'⟩:=s';have e:o'=s.os:=ho;subst e;exact I.call (g':=g') (t':=t') (d':=d') u hok hg hch
end
noncomputable abbrev XK:=Value->Option Addr->Hp->Prop
noncomputable abbrev St:=List (Option V)
noncomputable abbrev VK:=V->Hp->Prop
noncomputable abbrev TE:=St->Hp->VK->Prop
noncomputable abbrev TT:=St->Hp->(Bool->Hp->Prop)->Prop
noncomputable abbrev TA:=St->Hp->(List V->Hp->Prop)->Prop
structure Ends where
 nx:St->Hp->Prop
 rt:VK
 bk:St->Hp->Prop:=λ_ _=>False
 ct:St->Hp->Prop:=λ_ _=>False
noncomputable abbrev TS:=Ends->St->Hp->Prop
def EP(X:Cx)(pins:List (Addr×Obj))(σ:St)(Q:VK)(u:Value)(s':Shared):Prop:=∃v H',Inv X pins σ H' s'/\RelV v u/\Q v H'
def TP(X:Cx)(pins:List (Addr×Obj))(σ:St)(Q:Bool->Hp->Prop)(b:Bool)(s':Shared):Prop:=∃H',Inv X pins σ H' s'/\Q b H'
def AP(X:Cx)(pins:List (Addr×Obj))(σ:St)(Q:List V->Hp->Prop)(us:List Value)(s':Shared):Prop:=∃vs H',Inv X pins σ H' s'/\Vals vs us/\Q vs H'
def SP(X:Cx)(pins:List (Addr×Obj))(D:Ends)(f:Flow)(s':Shared):Prop:=
 match f with
 |.next=>∃σ' H',Inv X pins σ' H' s'/\D.nx σ' H'
 |.brk=>∃σ' H',Inv X pins σ' H' s'/\D.bk σ' H'
 |.cont=>∃σ' H',Inv X pins σ' H' s'/\D.ct σ' H'
 |.ret u=>∃v σ' H',Inv X pins σ' H' s'/\RelV v u/\D.rt v H'
def PE(X:Cx)(e:Expr)(t:TE):Prop:=
 ∀(pins:List (Addr×Obj)) (s:Shared) (σ:St) (H:Hp) (Q:VK),Inv X pins σ H s->t σ H Q->wpAny (model X.prog X.w) X.A (eval e X.env) (EP X pins σ Q) X.xe s
def PT(X:Cx)(e:Expr)(t:TT):Prop:=
 ∀(pins:List (Addr×Obj)) (s:Shared) (σ:St) (H:Hp) (Q:Bool->Hp->Prop),Inv X pins σ H s->t σ H Q->wpAny (model X.prog X.w) X.A (isTrue e X.env (eval e X.env)) (TP X pins σ Q) X.xe s
def PW(X:Cx)(e:Expr)(t:TT):Prop:=
 ∀(whole:Sem Value) (pins:List (Addr×Obj)) (s:Shared) (σ:St) (H:Hp) (Q:Bool->Hp->Prop),Inv X pins σ H s->t σ H Q->wpAny (model X.prog X.w) X.A (isTrue e X.env whole) (TP X pins σ Q) X.xe s
theorem PW.pt{X:Cx}{e:Expr}{t:TT}(h:PW X e t):PT X e t:=h _
def PA(X:Cx)(es:List Expr)(t:TA):Prop:=
 ∀(pos:Pos) (pins:List (Addr×Obj)) (s:Shared) (σ:St) (H:Hp) (Q:List V->Hp->Prop),Inv X pins σ H s->t σ H Q->wpAny (model X.prog X.w) X.A (spliced (backTo pos (starEach es X.env))) (AP X pins σ Q) X.xe s
def PS(X:Cx)(st:Stmt)(t:TS):Prop:=
 ∀(pins:List (Addr×Obj)) (s:Shared) (σ:St) (H:Hp) (D:Ends),Inv X pins σ H s->t D σ H->wpAny (model X.prog X.w) X.A (exec st X.env) (SP X pins D) X.xe s
def PSs(X:Cx)(st:List Stmt)(t:TS):Prop:=
 ∀(pins:List (Addr×Obj)) (s:Shared) (σ:St) (H:Hp) (D:Ends),Inv X pins σ H s->t D σ H->wpAny (model X.prog X.w) X.A (execs st X.env) (SP X pins D) X.xe s
theorem thn{α:Type}{t:Sem α}{Q Q':α->Shared->Prop}{M:Model}{A:Around}{E:Value->Shared->Prop}{s:Shared}(h:wpAny M A t Q E s)(hQ:∀a s,Q a s->Q' a s):wpAny M A t Q' E s:=eQ h hQ λ_ _ x=>x
section
variable{X:Cx}
def aF7(i:Nat):TE:=λσ H Q=>∃v,σ[i]? =some (some v)/\Q v H
def tC(v:V):TE:=λ_ H Q=>Q v H
theorem aIL{i:Nat}{x:Str}{pos:Pos}(hN:X.N[i]? =some x)(hv:Vis X.env.scope x)(hd:(x==("__debug__":Str))=false:=by decide)(hcd:(x==("__classdict__":Str))=false:=by decide):PE X (.Name x pos) (aF7 i):=by
 intro pins s σ H Q I h;obtain⟨v,e,h⟩:=h;obtain⟨m,hn,hl⟩:=I.loc;obtain⟨u,r,l⟩:=hl i x v hN e hv;have fin:EP X pins σ Q u s:=⟨v,H,I,r,h⟩;rcases l with ⟨hk,hm⟩ | ⟨hk,c,hc,hcell⟩
 ·exact wpAny_Name (wpAny_loadName_local I.ok.kind hk hn hm fin) hd
 ·rcases hk with hk | hk
  ·exact wpAny_Name (wpAny_loadName_cell I.ok.kind hk hc hcell fin) hd
  ·exact wpAny_Name (wpAny_loadName_free I.ok.kind hk hc hcell fin hcd) hd
theorem aC3{i j pos}:PE X (.Constant (.int i) j pos) (tC (.int i)):=λ_ _ _ H _ I h=>wpAny_Constant_int ⟨.int i,H,I.tok _,⟨()⟩,h⟩
theorem aPV{b j pos}:PE X (.Constant (.bool b) j pos) (tC (.bl b)):=λ_ _ _ H _ I h=>Constant_bool ⟨.bl b,H,I,rfl,h⟩
theorem aIG{j pos}:PE X (.Constant .none j pos) (tC .non):=λ_ _ _ H _ I h=>Constant_none ⟨.non,H,I,rfl,h⟩
theorem aC6{x j pos}:PE X (.Constant (.str x) j pos) (tC (.str x)):=λ_ _ _ H _ I h=>Calls.Constant_str ⟨.str x,H,I.tok _,⟨()⟩,h⟩
def Gl(X:Cx)(x:Str):Prop:=X.env.kindOf x=some .globalImplicit
theorem af7{E:Value->Shared->Prop}{pins:List (Addr×Obj)}{s:Shared}{σ:St}{H:Hp}{x:Str}{u:Value}{pos:Pos}{Q:Value->Shared->Prop}(I:Inv X pins σ H s)(hg:Gl X x)(hm:X.mg x=some u)(h:Q u s)
  (hd:(x==("__debug__":Str))=false:=by decide):wpAny (model X.prog X.w) X.A (eval (.Name x pos) X.env) Q E s:=
 Calls.Name_function_global I.ok.kind hg (Calls.loadGlobal_global (by rw[I.ok.glob];exact I.mod.glob.keeps I.bk) hm h) hd
theorem ahB{E:Value->Shared->Prop}{pins:List (Addr×Obj)}{s:Shared}{σ:St}{H:Hp}{x:Str}{u:Value}{pos:Pos}{Q:Value->Shared->Prop}(I:Inv X pins σ H s)(hg:Gl X x)(hm:X.mg x=none)(hv:bootBuiltins x=some u)(h:Q u s)
  (hn:x≠"__name__":=by decide) (hd:(x==("__debug__":Str))=false:=by decide):wpAny (model X.prog X.w) X.A (eval (.Name x pos) X.env) Q E s:=by
 obtain⟨mb,h1,h2⟩:=I.mod.blt;exact Calls.Name_function_global I.ok.kind hg (Calls.loadGlobal_builtin (by rw[I.ok.glob];exact I.mod.glob.keeps I.bk) hm (by rw[I.ok.blt];exact h1.keeps I.bk) ((h2 x hn).trans hv) h) hd
theorem aF9{x:Str}{v:V}{u:Value}{pos:Pos}(hg:Gl X x)(hm:X.mg x=some u)(r:RelV v u)(hd:(x==("__debug__":Str))=false:=by decide):PE X (.Name x pos) (tC v):=
 λ_ _ _ H _ I h=>af7 I hg hm ⟨v,H,I,r,h⟩ hd
theorem aGK{x:Str}{v:V}{u:Value}{pos:Pos}(hg:Gl X x)(hm:X.mg x=none)(hv:bootBuiltins x=some u)(r:RelV v u)(hn:x≠"__name__":=by decide)(hd:(x==("__debug__":Str))=false:=by decide):PE X (.Name x pos) (tC v):=
 λ_ _ _ H _ I h=>ahB I hg hm hv ⟨v,H,I,r,h⟩ hn hd
variable{a b:Expr}{ta tb:TE}{pos:Pos}
def PC(X:Cx)(op:CmpOp)(a b:Expr)(t:TE):Prop:=
 ∀(pins:List (Addr×Obj)) (s:Shared) (σ:St) (H:Hp) (Q:VK),Inv X pins σ H s->t σ H Q->
  wpAny (model X.prog X.w) X.A (eval a X.env) (λv s₁=>wpAny (model X.prog X.w) X.A (eval b X.env) (λu s₂=>wpAny (model X.prog X.w) X.A (compareOp op v u) (EP X pins σ Q) X.xe s₂) X.xe s₁) X.xe s
theorem aDB(b:Expr){op:CmpOp}(h:op≠ .In)(h2:op≠ .NotIn):behindInMarks op b=false:=by
 have e1:(op==CmpOp.In)=false:=by cases op<;>first | rfl | exact absurd rfl h
 have e2:(op==CmpOp.NotIn)=false:=by cases op<;>first | rfl | exact absurd rfl h2
 cases b<;>simp[behindInMarks,e1,e2]
def tB(t:TE):TT:=λσ H Q=>t σ H λx H1=>∃c,x=.bl c/\Q c H1
theorem aJZ{op:CmpOp}{t:TE}(h:PC X op a b t)(h1:behindInMarks op b=false:=by first | exact aDB _ (by decide) (by decide) | rfl):PT X (.Compare a [op] [b] pos) (tB t):=by
 intro pins s σ H Q I hw;refine wpAny_isTrue_Compare1 (thn (h pins s σ H _ I hw) λv s1 h1=>thn h1 λu s2 h2=>thn h2 λc s3 ⟨x,H1,I1,r1,q1⟩=>?_) h1;obtain⟨d,rfl,q⟩:=q1;cases r1;exact fG ⟨H1,I1,q⟩
theorem aKS{e:Expr}{t:TE}(h:PE X e t)(he:∀whole,isTrue e X.env whole=(do let v ←whole;standAt e.pos;holding [v] (truthy v)):=by intro _;rfl):PT X e (tB t):=by
 intro pins s σ H Q I hw;refine isTrue_plain (thn (h pins s σ H _ I hw) λv s1 ⟨x,H1,I1,r1,q1⟩=>?_) (he _);obtain⟨d,rfl,q⟩:=q1;cases r1;exact fG ⟨H1,I1,q⟩
variable{tA tB':TT}{rest:List Expr}
def aQP(t u:TT):TT:=λσ H Q=>t σ H λc H1=>if c=true then u σ H1 Q else Q false H1
def tOr(t u:TT):TT:=λσ H Q=>t σ H λc H1=>if c=true then Q true H1 else u σ H1 Q
def aRL(t:TT):TT:=λσ H Q=>t σ H λc H1=>Q (!c) H1
theorem aEY(ha:PT X a tA):PW X (.BoolOp .And [a] pos) tA:=by
 intro wh pins s σ H Q I h;refine isTrue_and (thn (ha pins s σ H Q I h) λc s1 e=>?_);cases c with
 |true=>exact isTrue_and_nil e
 |false=>exact e
theorem aIV(ha:PT X a tA):PW X (.BoolOp .Or [a] pos) tA:=by
 intro wh pins s σ H Q I h;refine isTrue_or (thn (ha pins s σ H Q I h) λc s1 e=>?_);cases c with
 |false=>exact isTrue_or_nil e
 |true=>exact e
theorem aK4(ha:PT X a tA)(hb:PW X (.BoolOp .And (b::rest) pos) tB'):PW X (.BoolOp .And (a::b::rest) pos) (aQP tA tB'):=by
 intro wh pins s σ H Q I h;refine isTrue_and (thn (ha pins s σ H _ I h) λc s1 ⟨H1,I1,q1⟩=>?_);cases c with
 |true=>exact hb wh pins s1 σ H1 Q I1 q1
 |false=>exact⟨H1,I1,q1⟩
theorem aN4(ha:PT X a tA)(hb:PW X (.BoolOp .Or (b::rest) pos) tB'):PW X (.BoolOp .Or (a::b::rest) pos) (tOr tA tB'):=by
 intro wh pins s σ H Q I h;refine isTrue_or (thn (ha pins s σ H _ I h) λc s1 ⟨H1,I1,q1⟩=>?_);cases c with
 |true=>exact⟨H1,I1,q1⟩
 |false=>exact hb wh pins s1 σ H1 Q I1 q1
theorem aIF(ha:PT X a tA):PT X (.UnaryOp .Not a pos) (aRL tA):=by
 intro pins s σ H Q I h;exact isTrue_not (ha pins s σ H (λc H1=>Q (!c) H1) I h)
def aHQ(ta tb:TE):TE:=λσ H Q=>ta σ H λx H1=>∃c,x=.bl c/\if c=true then tb σ H1 Q else Q (.bl false) H1
def aOE(ta tb:TE):TE:=λσ H Q=>ta σ H λx H1=>∃c,x=.bl c/\if c=true then Q (.bl true) H1 else tb σ H1 Q
def aHK(ta:TE):TE:=λσ H Q=>ta σ H λx H1=>∃c,x=.bl c/\Q (.bl (!c)) H1
theorem aJV{op}{t:TE}(h:PE X a t):PE X (.BoolOp op [a] pos) t:=λpins s σ H Q I hw=>BoolOp_one (h pins s σ H Q I hw)
theorem aJR(ha:PE X a ta)(hb:PE X (.BoolOp .And (b::rest) pos) tb):PE X (.BoolOp .And (a::b::rest) pos) (aHQ ta tb):=by
 intro pins s σ H Q I h;refine BoolOp_and (thn (ha pins s σ H _ I h) λv s1 ⟨x,H1,I1,r1,q1⟩=>?_);obtain⟨c,rfl,q1⟩:=q1;cases r1;refine fG ?_;cases c with
 |true=>exact hb pins s1 σ H1 Q I1 q1
 |false=>exact⟨.bl false,H1,I1,rfl,q1⟩
theorem aNL(ha:PE X a ta)(hb:PE X (.BoolOp .Or (b::rest) pos) tb):PE X (.BoolOp .Or (a::b::rest) pos) (aOE ta tb):=by
 intro pins s σ H Q I h;refine BoolOp_or (thn (ha pins s σ H _ I h) λv s1 ⟨x,H1,I1,r1,q1⟩=>?_);obtain⟨c,rfl,q1⟩:=q1;cases r1;refine fG ?_;cases c with
 |false=>exact hb pins s1 σ H1 Q I1 q1
 |true=>exact⟨.bl true,H1,I1,rfl,q1⟩
theorem aJB(ha:PE X a ta):PE X (.UnaryOp .Not a pos) (aHK ta):=by
 intro pins s σ H Q I h;refine UnaryOp_ (thn (ha pins s σ H _ I h) λv s1 ⟨x,H1,I1,r1,q1⟩=>?_);obtain⟨c,rfl,q1⟩:=q1;cases r1;exact not_of (fG ⟨.bl (!c),H1,I1,rfl,q1⟩)
def tIf(t:TT)(ta tb:TE):TE:=λσ H Q=>t σ H λc H1=>if c=true then ta σ H1 Q else tb σ H1 Q
theorem aC4{c:Expr}(hc:PT X c tA)(ha:PE X a ta)(hb:PE X b tb):PE X (.IfExp c a b pos) (tIf tA ta tb):=by
 intro pins s σ H Q I h;refine wpAny_IfExp (thn (hc pins s σ H _ I h) λd s1 ⟨H1,I1,q1⟩=>?_);cases d with
 |true=>exact ha pins s1 σ H1 Q I1 q1
 |false=>exact hb pins s1 σ H1 Q I1 q1
end
def SqL(K:FG)(H:Hp)(a:Addr)(xs:List V):Prop:=
 Rd H a (.lst xs)∨
  ∃(o:Obj) (its:Array Value) (n:Nat),K.lookup a=some o/\o.cls=.type "list"/\o.dict=none/\o.data=.seq its n/\its.size<=sizeLine/\Vals xs its.toList
def SqT(K:FG)(H:Hp)(a:Addr)(xs:List V):Prop:=
 Rd H a (.tup xs)∨
  ∃(o:Obj) (its:Array Value) (n:Nat),K.lookup a=some o/\o.cls=.type "tuple"/\o.data=.seq its n/\its.size<=sizeLine/\Vals xs its.toList
noncomputable def absV:Value->Option V
 |.none=>some .non
 |.bool b=>some (.bl b)
 |.int i _=>some (.int i)
 |.str x _=>some (.str x)
 |.bytes b _=>some (.byt b)
 |.float b _=>some (.flt b)
 |.ref a=>some (.ref a)
 |.type n=>some (.ty n)
 |_=>none
theorem RelV.abs{x:V}{u:Value}(r:RelV x u):absV u=some x:=by
 cases x with
 |non=>cases r;rfl
 |bl _=>cases r;rfl
 |int _=>obtain⟨t,rfl⟩:=r;rfl
 |str _=>obtain⟨t,rfl⟩:=r;rfl
 |byt _=>obtain⟨t,rfl⟩:=r;rfl
 |flt _=>obtain⟨t,rfl⟩:=r;rfl
 |ref _=>cases r;rfl
 |ty _=>cases r;rfl
theorem RelV.inj{x y:V}{u:Value}(r:RelV x u)(q:RelV y u):x=y:=aZ (r.abs.symm.trans q.abs)
theorem Vals.inj:∀{xs ys:List V} {us:List Value},Vals xs us->Vals ys us->xs=ys
 |_,_,_,.nil,.nil=>rfl
 |_,_,_,.cons r t,.cons r' t'=>by rw[r.inj r',Vals.inj t t']
section
variable{X:Cx}{pins:List (Addr×Obj)}{σ:St}{H:Hp}{s:Shared}{a:Addr}{xs ys:List V}
theorem SqL.of{K:FG}(h:H a=some (.lst xs)):SqL K H a xs:=.inl (.inl h)
theorem SqT.of{K:FG}(h:H a=some (.tup xs)):SqT K H a xs:=.inl (.inl h)
theorem Inv.list(I:Inv X pins σ H s)(h:SqL X.K H a xs):∃its:List Value,Vals xs its/\PlainL s.heap a its.toArray/\xs.length<=sizeLine:=by
 rcases h with h | ⟨o,its,n,hk,hc,hd,hs,hz,r⟩
 ·obtain⟨z,its,n,r,e⟩:=h.ok I.hok;exact⟨its,r,⟨_,n,e,rfl,rfl,rfl⟩,z⟩
 ·refine⟨its.toList,r,⟨o,n,I.kIn a o hk,hc,hd,by simpa using hs⟩,?_⟩;have e:=r.length;simp only[bS] at e;omega
theorem Inv.tuple(I:Inv X pins σ H s)(h:SqT X.K H a xs):∃its:List Value,Vals xs its/\IsTup s.heap a its.toArray/\xs.length<=sizeLine:=by
 rcases h with h | ⟨o,its,n,hk,hc,hs,hz,r⟩
 ·obtain⟨z,its,r,p⟩:=h.ok I.hok;exact⟨its,r,p,z⟩
 ·refine⟨its.toList,r,⟨o,I.kIn a o hk,hc,n,by simpa using hs⟩,?_⟩;have e:=r.length;simp only[bS] at e;omega
theorem Inv.list_inj(I:Inv X pins σ H s)(h:SqL X.K H a xs)(h':SqL X.K H a ys):xs=ys:=by
 obtain⟨its,r,⟨o,n,e,_,_,d⟩,_⟩:=I.list h;obtain⟨its',r',⟨o',n',e',_,_,d'⟩,_⟩:=I.list h';rw[e] at e';cases e';rw[d] at d';injection d' with d1 _;have:its=its':=by simpa using congrArg Array.toList d1
 subst this;exact r.inj r'
theorem Inv.tuple_inj(I:Inv X pins σ H s)(h:SqT X.K H a xs)(h':SqT X.K H a ys):xs=ys:=by
 obtain⟨its,r,⟨o,e,_,n,d⟩,_⟩:=I.tuple h;obtain⟨its',r',⟨o',e',_,n',d'⟩,_⟩:=I.tuple h';rw[e] at e';cases e';rw[d] at d';injection d' with d1 _;have:its=its':=by simpa using congrArg Array.toList d1
 subst this;exact r.inj r'
end
noncomputable abbrev Cx.wish(X:Cx)(E:Value->Shared->Prop):Cx:={X with xe:=E}
noncomputable abbrev Cx.nox(X:Cx):Cx:=X.wish λ_ _=>False
theorem Cx.Ok.wish{X:Cx}(ok:X.Ok)(E:Value->Shared->Prop):(X.wish E).Ok:=
 ⟨ok.mod,ok.kind,ok.glob,ok.blt,ok.above,ok.inj,ok.has,ok.cab,ok.hd,ok.frames,ok.stk,ok.exf,ok.bs,ok.bsz,ok.noex,ok.exfs,ok.funs,ok.frf⟩
theorem Cx.Ok.unwish{X:Cx}{E:Value->Shared->Prop}(ok:(X.wish E).Ok):X.Ok:=
 ⟨ok.mod,ok.kind,ok.glob,ok.blt,ok.above,ok.inj,ok.has,ok.cab,ok.hd,ok.frames,ok.stk,ok.exf,ok.bs,ok.bsz,ok.noex,ok.exfs,ok.funs,ok.frf⟩
section
variable{X:Cx}{pins:List (Addr×Obj)}{σ:St}{H:Hp}{s:Shared}{E:Value->Shared->Prop}
theorem Inv.wish(I:Inv X pins σ H s)(E:Value->Shared->Prop):Inv (X.wish E) pins σ H s:=⟨I.ok.wish E,I.os,I.bare,I.base,I.loc,I.cell,I.free,I.freeC,I.pin,I.hok,I.len⟩
theorem Inv.unwish(I:Inv (X.wish E) pins σ H s):Inv X pins σ H s:=⟨I.ok.unwish,I.os,I.bare,I.base,I.loc,I.cell,I.free,I.freeC,I.pin,I.hok,I.len⟩
theorem SP.unwish{D:Ends}{f:Flow}{s':Shared}(h:SP (X.wish E) pins D f s'):SP X pins D f s':=by
 cases f with
 |next=>obtain⟨σ',H',I,q⟩:=h;exact⟨σ',H',I.unwish,q⟩
 |brk=>obtain⟨σ',H',I,q⟩:=h;exact⟨σ',H',I.unwish,q⟩
 |cont=>obtain⟨σ',H',I,q⟩:=h;exact⟨σ',H',I.unwish,q⟩
 |ret u=>obtain⟨v,σ',H',I,r,q⟩:=h;exact⟨v,σ',H',I.unwish,r,q⟩
theorem PSs.nox{st:List Stmt}{t:TS}(h:PSs X.nox st t):PSs X st t:=λpins s σ H D I hw=>
 eQ (h pins s σ H D (I.wish _) hw) (λ_ _ q=>q.unwish) λ_ _ z=>False.elim z
end
section
variable{X:Cx}{st:Stmt}{rest:List Stmt}{t u:TS}{e:Expr}{te:TE}{pos:Pos}
def aHA:TS:=λD σ H=>D.nx σ H
def aF6(t u:TS):TS:=λD σ H=>t {D with nx:=u D} σ H
theorem aGB:PSs X [] aHA:=λ_ _ σ H _ I h=>wpAny_execs_nil ⟨σ,H,I,h⟩
theorem aDO(h1:PS X st t)(h2:PSs X rest u):PSs X (st::rest) (aF6 t u):=by
 intro pins s σ H D I h;refine wpAny_execs_cons (thn (h1 pins s σ H {D with nx:=u D} I h) λf s1 q=>?_);cases f with
 |next=>
  obtain⟨σ',H',I',q⟩:=q;exact h2 pins s1 σ' H' D I' q
 |ret v=>exact q
 |brk=>exact q
 |cont=>exact q
theorem aFB(h1:PS X st t):PSs X [st] t:=by
 intro pins s σ H D I h;refine wpAny_execs_cons (thn (h1 pins s σ H D I h) λf s1 q=>?_);cases f with
 |next=>exact wpAny_execs_nil q
 |ret v=>exact q
 |brk=>exact q
 |cont=>exact q
theorem Inv.quiet{pins:List (Addr×Obj)}{σ:St}{H:Hp}{s:Shared}(I:Inv X pins σ H s):interactive X.env=false:=by simp[interactive,I.ok.kind]
def aHU(te:TE):TS:=λD σ H=>te σ H λ_ H1=>D.nx σ H1
theorem aEP(he:PE X e te)(hs:swapsWith e none pos.line X.env=pure false:=by rfl):PS X (.Expr e pos) (aHU te):=by
 intro pins s σ H D I h;exact wpAny_Expr_any (thn (he pins s σ H _ I h) λv s1 ⟨x,H1,I1,r1,q1⟩=>⟨σ,H1,I1,q1⟩) I.quiet hs
def aUB(te:TE):TS:=λD σ H=>te σ H D.rt
theorem aJL(he:PE X e te):PS X (.Return (some e) pos) (aUB te):=by
 intro pins s σ H D I h;exact wpAny_Return_some (thn (he pins s σ H _ I h) λv s1 ⟨x,H1,I1,r1,q1⟩=>⟨x,σ,H1,I1,r1,q1⟩)
def aU4(c:TT)(t u:TS):TS:=λD σ H=>c σ H λb H1=>if b=true then t D σ H1 else u D σ H1
theorem aUJ{c:Expr}{a b:List Stmt}{tc:TT}(hc:PT X c tc)(ha:PSs X a t)(hb:PSs X b u):PS X (.If c a b pos) (aU4 tc t u):=by
 intro pins s σ H D I h;refine wpAny_If (thn (hc pins s σ H _ I h) λd s1 ⟨H1,I1,q1⟩=>?_);cases d with
 |true=>exact ha pins s1 σ H1 D I1 q1
 |false=>exact hb pins s1 σ H1 D I1 q1
def aBB:TS:=λ_ _ _=>False
theorem aB2:PS X st aBB:=λ_ _ _ _ _ _ h=>h.elim
end
noncomputable abbrev TG:=V->St->Hp->(St->Hp->Prop)->Prop
noncomputable abbrev TGs:=List V->St->Hp->(St->Hp->Prop)->Prop
def PG(X:Cx)(target:Expr)(t:TG):Prop:=
 ∀(pins:List (Addr×Obj)) (s:Shared) (σ:St) (H:Hp) (v:V) (u:Value) (Q:St->Hp->Prop),Inv X pins σ H s->RelV v u->t v σ H Q->
  wpAny (model X.prog X.w) X.A (assign target X.env u) (λ_ s'=>∃σ' H',Inv X pins σ' H' s'/\Q σ' H') X.xe s
def PGs(X:Cx)(ts:List Expr)(t:TGs):Prop:=
 ∀(pins:List (Addr×Obj)) (s:Shared) (σ:St) (H:Hp) (vs:List V) (us:List Value) (Q:St->Hp->Prop),Inv X pins σ H s->Vals vs us->t vs σ H Q->
  wpAny (model X.prog X.w) X.A (assignInOrder ((assignEach ts X.env).map (·.2)) us) (λ_ s'=>∃σ' H',Inv X pins σ' H' s'/\Q σ' H') X.xe s
noncomputable abbrev aI2:=V->V->V->Hp->(Hp->Prop)->Prop
def aTO(X:Cx)(t:aI2):Prop:=
 ∀(pins:List (Addr×Obj)) (s:Shared) (σ:St) (H:Hp) (o i v:V) (ov iv u:Value) (Q:Hp->Prop),Inv X pins σ H s->RelV o ov->RelV i iv->RelV v u->t o i v H Q->
  wpAny (model X.prog X.w) X.A (setItem ov iv u) (λ_ s'=>∃H',Inv X pins σ H' s'/\Q H') X.xe s
section
variable{X:Cx}{pos:Pos}
def ab8(i:Nat):TG:=λv σ H Q=>Q (σ.set i (some v)) H
theorem axK{i:Nat}{x:Str}(hN:X.N.Nodup)(hi:X.N[i]? =some x)(hx:Loc X.env.scope x)(hf:X.fn x=true∨X.env.scope.names.lookup x=some .local:=by first | exact .inl rfl | exact .inr rfl | assumption):PG X (.Name x pos) (ab8 i):=by
 intro pins s σ H v u Q I r h;exact wpAny_assign_Name (ahR I hN hi hx r (λs' I'=>⟨_,H,I',h⟩) hf)
def aJ0:TGs:=λvs σ H Q=>vs=[]/\Q σ H
def ayC(t:TG)(u:TGs):TGs:=λvs σ H Q=>∃v r,vs=v::r/\t v σ H λσ' H'=>u r σ' H' Q
theorem aEM:PGs X [] aJ0:=by
 intro pins s σ H vs us Q I r h;obtain⟨e,h⟩:=h;subst e;cases r;exact assignInOrder_nil ⟨σ,H,I,h⟩
theorem aCG{e:Expr}{es:List Expr}{t:TG}{u:TGs}(h1:PG X e t)(h2:PGs X es u)
  (hs:(assignEach (e::es) X.env).map (·.2)=assign e X.env::(assignEach es X.env).map (·.2):=by rfl):PGs X (e::es) (ayC t u):=by
 intro pins s σ H vs us Q I r h;obtain⟨v,vr,e1,h⟩:=h;subst e1;cases r with
 |cons r rr=>
  rw[hs];refine assignInOrder_cons (thn (h1 pins s σ H _ _ _ I r h) λ_ s1 ⟨σ1,H1,I1,q1⟩=>?_);exact h2 pins s1 σ1 H1 _ _ Q I1 rr q1
def aF5(K:FG)(n:Nat)(t:TGs):TG:=λv σ H Q=>∃a xs,v=.ref a/\SqT K H a xs/\xs.length=n/\t xs σ H Q
theorem aKR{es:List Expr}{k:Nat}{t:TGs}{n:Nat}(hc:X.calm=true)(h:PGs X es t)
  (hn:(assignEach es X.env).length=n:=by rfl) (hst:(assignEach es X.env).findIdx? (·.1)=none:=by rfl):PG X (.Tuple es k pos) (aF5 X.K n t):=by
 intro pins s σ H v u Q I r hw;obtain⟨a,xs,e1,hq,hl,hw⟩:=hw;subst e1;cases r;obtain⟨its,rv,ht,hz⟩:=I.tuple hq;refine assign_Tuple_tuple (I.ok.hd hc) ht (by simp[hn,←hl,rv.length]) hst λh' hx=>?_;have I1:Inv X pins σ H {s with heap:=h'}:=I.kept (t':=s.toks) λb o e=>hx b o (aW (aV e)) e;exact h pins _ σ H xs _ Q I1 (by simpa using rv) hw
def aSX(to ti:TE)(t:aI2):TG:=λv σ H Q=>to σ H λo H1=>ti σ H1 λi H2=>t o i v H2 λH3=>Q σ H3
theorem aJD{o i:Expr}{to ti:TE}{t:aI2}(ho:PE X o to)(hi:PE X i ti)(hs:aTO X t)
  (ha:∀v,assign (.Subscript o i pos) X.env v=(do
   let ov ←holding [v] (eval o X.env)
   let iv ←holding [v,ov] (eval i X.env)
   standAt pos
   holding [v,ov,iv] (setItem ov iv v)
   release [v,ov,iv] []):=by intro _;rfl):PG X (.Subscript o i pos) (aSX to ti t):=by
 intro pins s σ H v u Q I r h;rw[ha];refine eP (eV (thn (ho pins s σ H _ I h) λov s1 ⟨x,H1,I1,r1,q1⟩=>?_));refine eP (eV (thn (hi pins s1 σ H1 _ I1 q1) λiv s2 ⟨y,H2,I2,r2,q2⟩=>?_));refine eP (wpAny_standAt (eP (eV (thn (hs pins s2 σ H2 x y v ov iv u _ I2 r1 r2 r q2) λ_ s3 ⟨H3,I3,q3⟩=>?_))));exact wpAny_release ⟨σ,H3,I3,q3⟩
def ayR(te:TE)(g:TG):TS:=λD σ H=>te σ H λx H1=>g x σ H1 D.nx
theorem aJ1{tg e:Expr}{te:TE}{g:TG}(he:PE X e te)(hg:PG X tg g)(hs:swapsWithSole [tg] e pos.line X.env=pure false:=by rfl)(hw:swappedStores [tg] e X.env=pure none:=by rfl)
  (h1:(assignEach [tg] X.env).map (·.2)=[assign tg X.env]:=by rfl):PS X (.Assign [tg] e pos) (ayR te g):=by
 intro pins s σ H D I h;refine wpAny_Assign_stores (thn (he pins s σ H _ I h) λv s1 ⟨x,H1,I1,r1,q1⟩=>?_) hs hw;rw[h1];exact thn (hg pins s1 σ H1 x v _ I1 r1 q1) λ_ s2 q=>q
theorem aJ9{i:Nat}{x:Str}{e:Expr}{te:TE}{pos':Pos}(hN:X.N.Nodup)(hi:X.N[i]? =some x)(hx:Loc X.env.scope x)(he:PE X e te)(hs:swapsWith e (some (.Name x pos')) pos.line X.env=pure false:=by rfl)(hf:X.fn x=true∨X.env.scope.names.lookup x=some .local:=by first | exact .inl rfl | exact .inr rfl | assumption):
  PS X (.Assign [.Name x pos'] e pos) (ayR te (ab8 i)):=by
 intro pins s σ H D I h;refine wpAny_Assign_Name (thn (he pins s σ H _ I h) λv s1 ⟨y,H1,I1,r1,q1⟩=>?_) hs;exact ahR I1 hN hi hx r1 (λs2 I2=>⟨_,H1,I2,q1⟩) hf
def aRJ(i j:Nat)(ta:TA):TS:=λD σ H=>ta σ H λvs H1=>∃v w,vs=[v,w]/\D.nx ((σ.set i (some v)).set j (some w)) H1
theorem aIT{i j:Nat}{x y:Str}{a b:Expr}{ta:TA}{px py pt:Pos}{kt k2 pt2}(hc:X.calm=true)(hN:X.N.Nodup)(hi:X.N[i]? =some x)(hj:X.N[j]? =some y)(hij:i≠j)
  (hx:X.env.scope.names.lookup x=some .local) (hy:X.env.scope.names.lookup y=some .local) (ha:PA X [a,b] ta)
  (hw:swappedStores [.Tuple [.Name x px,.Name y py] kt pt] (.Tuple [a,b] k2 pt2) X.env=pure (some [x,y]))
  (hs:swapsWithSole [.Tuple [.Name x px,.Name y py] kt pt] (.Tuple [a,b] k2 pt2) pos.line X.env=pure false:=by rfl):
  PS X (.Assign [.Tuple [.Name x px,.Name y py] kt pt] (.Tuple [a,b] k2 pt2) pos) (aRJ i j ta):=by
 intro pins s σ H D I h;rw[exec_Assign_arm];refine eP (wpAny_standAt ?_);rw[hs];refine eP (fF ?_);rw[if_neg (by decide)];refine eP (Tuple_ (thn (ha _ pins s σ H _ I h) λus s1 ⟨vs,H1,I1,r1,q1⟩=>?_));obtain⟨v,w,e1,q1⟩:=q1;subst e1;obtain⟨u1,u2,rfl,rv,rw'⟩:∃u1 u2,us=[u1,u2]/\RelV v u1/\RelV w u2:=by
  cases r1 with
  |cons p q=>
   cases q with
   |cons p' q'=>
    cases q';exact⟨_,(),p,p'⟩
 refine eO ?_ (by show 2<=sizeLine;decide);have I2:Inv X pins σ H1 {s1 with heap:=s1.heap.push {cls:=.type "tuple",data:=.seq [u1,u2].toArray} }:=I1.kept (t':=s1.toks) λb o e=>aU _ e;rw[hw];refine eP (fF ?_);show wpAny (model X.prog X.w) X.A (do rule "assign.swapped-stores";let items ←unpackItems (.ref s1.heap.objs.size) 2 none;assignInOrder [λv=>bindName X.env y v,λv=>bindName X.env x v] items.reverse;pure Flow.next) _ _ _
 refine eP (wpAny_rule (eP (unpackItems_tuple (items:= #[u1,u2]) (I.ok.hd hc) (IsTup.new s1.heap _) λh' hx'=>?_)));have I3:=I2.kept (h':=h') (t':=s1.toks) λb o e=>hx' b o (aW (aV e)) e;show wpAny _ _ (assignInOrder [λv=>bindName X.env y v,λv=>bindName X.env x v] [u2,u1] >>=λ_=>pure Flow.next) _ _ _;refine eP (assignInOrder_cons (wpAny_bindName (ahR I3 hN hj (.inl hy) rw' (λs2 I4=>?_) (.inr hy))));refine assignInOrder_cons (wpAny_bindName (ahR I4 hN hi (.inl hx) rv (λs3 I5=>assignInOrder_nil (fF ?_)) (.inr hx)))
 rw[List.set_comm _ _ (Ne.symm hij)] at I5;exact⟨_,H1,I5,q1⟩
def avG(c:TT)(tb:TS):TS:=λD σ H=>∃W:Nat->St->Hp->Prop,(∃m,W m σ H)/\∀m σ H,W m σ H->
 c σ H λb H1=>if b=true then ∃N:St->Hp->Prop,(∀σ' H',N σ' H'->∃m',m'<m/\W m' σ' H')/\tb {D with nx:=N,ct:=N,bk:=D.nx} σ H1 else D.nx σ H1
theorem aBS{c:Expr}{body:List Stmt}{tc:TT}{tb:TS}(hp:PassesOwn (model X.prog X.w) X.A X.env X.xe)(hc:PT X c tc)(hb:PSs X body tb):PS X (.While c body [] pos) (avG tc tb):=by
 intro pins s σ H D I h;obtain⟨W,⟨m0,w0⟩,turn⟩:=h;refine wpAny_While (codeAny_whileLoop (λn s'=>∃σ' H',Inv X pins σ' H' s'/\W n σ' H') ?_ m0 ⟨σ,H,I,w0⟩);rintro n s1 ⟨σ1,H1,I1,w1⟩;refine eK hp (thn (hc pins s1 σ1 H1 _ I1 (turn n σ1 H1 w1)) λb s2 ⟨H2,I2,q2⟩=>?_);cases b with
 |true=>
  obtain⟨N,hN,q2⟩:=q2;rw[if_pos rfl];refine eK hp (thn (hb pins s2 σ1 H2 _ I2 q2) λf s3 q3=>?_);cases f with
  |next=>
   obtain⟨σ3,H3,I3,n3⟩:=q3;obtain⟨m',hm,w3⟩:=hN σ3 H3 n3;exact⟨m',hm,σ3,H3,I3,w3⟩
  |cont=>
   obtain⟨σ3,H3,I3,n3⟩:=q3;obtain⟨m',hm,w3⟩:=hN σ3 H3 n3;exact⟨m',hm,σ3,H3,I3,w3⟩
  |brk=>exact q3
  |ret v=>exact q3
 |false=>
  rw[if_neg a8];exact wpAny_execs_nil ⟨σ1,H2,I2,q2⟩
end
structure It where
 go:Nat->Hp->Prop
 yld:Nat->Hp->V->Hp->Prop
 stop:Nat->Hp->Prop
def ahT(X:Cx)(pins:List (Addr×Obj))(H:Hp)(b:Addr):Prop:=
 H b=none/\b≠X.env.locals/\b∉X.fs/\(b∈X.ex∨X.s₀.heap.objs.size<=b)/\(∀x c,X.env.cells.lookup x=some c->c≠b)/\∀p∈X.pn++pins,p.1≠b
theorem Inv.fpOk{X:Cx}{pins:List (Addr×Obj)}{σ:St}{H H':Hp}{s:Shared}{b:Addr}(I:Inv X pins σ H s)(hb:s.heap.objs.size<=b)(hn:H' b=none):ahT X pins H' b:=by
 refine⟨hn,Nat.ne_of_gt (bA I.lt hb),I.nofs hb,.inr (bL I.sz hb),λx c e z=>?_,λp hp z=>?_⟩
 ·obtain⟨v,q⟩:=I.cell x c e;exact absurd (bA q.lt (by rw[z];exact hb)) (cR _)
 ·exact absurd (bA (aV (I.pin p hp).1) (by rw[z];exact hb)) (cR _)
structure Turn(P:Program)(w:World)(K:FG)(tg:Expr)(J:It)(fp:List Addr)(it:Addr)(tn:Nat->Heap->Prop):Prop where
 mem:it∈fp
 obj:∀i h,tn i h->∀b∈fp,∃o,h.get? b=some o/\∀v,o.data≠ .cell v
 keep:∀i h h',tn i h->(∀b∈fp,∀o,h.get? b=some o->h'.get? b=some o)->tn i h'
 item:∀(X:Cx),X.prog=P->X.w=w->X.K=K->X.calm=true->∀(i:Nat) (pins:List (Addr×Obj)) (s:Shared) (σ:St) (H:Hp) (E:Value->Shared->Prop),Inv X pins σ H s->(∀b∈fp,ahT X pins H b)->tn i s.heap->J.go i H->
  wpAny (model P w) X.A (pyNext (.ref it)) (λr s1=>∃u,r=some u/\
   wpAny (model P w) X.A (letOwnedTupleGo tg (.ref it) u) (λ_ s2=>∃x H',Inv X pins σ H' s2/\RelV x u/\J.yld i H x H'/\tn (i+1) s2.heap/\∀b∈fp,H' b=none) E s1) E s
 done:∀(X:Cx),X.prog=P->X.w=w->X.K=K->X.calm=true->∀(i:Nat) (pins:List (Addr×Obj)) (s:Shared) (σ:St) (H:Hp) (E:Value->Shared->Prop),Inv X pins σ H s->(∀b∈fp,ahT X pins H b)->tn i s.heap->J.stop i H->
  wpAny (model P w) X.A (pyNext (.ref it)) (λr s1=>r=none/\Inv X pins σ H s1) E s
 self:∀(A:Around) (i:Nat) (s:Shared) (Q:Value->Shared->Prop) (E:Value->Shared->Prop),tn i s.heap->Q (.ref it) s->wpAny (model P w) A (pyIter (.ref it)) Q E s
noncomputable abbrev TI:=St->Hp->(It->Hp->Prop)->Prop
def PIE(X:Cx)(pins:List (Addr×Obj))(σ:St)(tg:Expr)(R:It->Hp->Prop)(itv:Value)(s2:Shared):Prop:=
 ∃(it:Addr) (fp:List Addr) (tn:Nat->Heap->Prop) (J:It) (H':Hp),itv=.ref it/\Inv X pins σ H' s2/\Turn X.prog X.w X.K tg J fp it tn/\tn 0 s2.heap/\(∀b∈fp,ahT X pins H' b)/\R J H'
def PI(X:Cx)(tg iter:Expr)(wi:TI):Prop:=
 ∀(pins:List (Addr×Obj)) (s:Shared) (σ:St) (H:Hp) (R:It->Hp->Prop),Inv X pins σ H s->wi σ H R->
  wpAny (model X.prog X.w) X.A (eval iter X.env) (λv s1=>wpAny (model X.prog X.w) X.A (pyIter v) (PIE X pins σ tg R) X.xe s1) X.xe s
theorem anE{M:Model}{A:Around}{E:Value->Shared->Prop}{s:Shared}{tg:Expr}{it:Addr}{u:Value}{o:Obj}{n:String}{vs:Array Value}{Q:Unit->Shared->Prop}(ho:s.heap.get? it=some o)(hc:o.cls=.type n)(hd:o.data=.fields vs)
  (hn:["enumerate","zip","dict_itemiterator","dict_reverseitemiterator","odict_iterator","itertools.zip_longest","itertools.pairwise"].contains n=false) (hQ:Q () s):wpAny M A (letOwnedTupleGo tg (.ref it) u) Q E s:=by
 unfold letOwnedTupleGo;cases tg<;>first
  |exact fF hQ
  |(cases u<;>first
    |exact fF hQ
    |(refine eP (wpAny_load ho ?_)
      rw[hc,hd];show wpAny M A (if (["enumerate","zip","dict_itemiterator","dict_reverseitemiterator","odict_iterator","itertools.zip_longest","itertools.pairwise"].contains n&&vs[0]? ==some (rawInt _))=true then _ else _) Q E s;rw[if_neg (by intro h;rw[hn,cZ] at h;cases h)];exact fF hQ))
noncomputable def Itl(K:FG)(a:Addr):It:=
 ⟨λi H=>∃xs x,SqL K H a xs/\xs[i]? =some x,λi H x H'=>H'=H/\∀xs,SqL K H a xs->xs[i]? =some x,λi H=>∃xs,SqL K H a xs/\xs.length<=i⟩
noncomputable def Itt(K:FG)(a:Addr):It:=
 ⟨λi H=>∃xs x,SqT K H a xs/\xs[i]? =some x,λi H x H'=>H'=H/\∀xs,SqT K H a xs->xs[i]? =some x,λi H=>∃xs,SqT K H a xs/\xs.length<=i⟩
noncomputable def Itr(lo:Int)(n:Nat):It:=⟨λi _=>i<n,λi H x H'=>H'=H/\x=.int (lo+i),λi _=>n<=i⟩
theorem azP{P:Program}{w:World}{K:FG}{tg:Expr}(a it:Addr):Turn P w K tg (Itl K a) [it] it (λi h=>h.IsListIter it a i) where
 mem:=by simp
 obj:=λi h st b hb=>by
  have e:b=it:=by simpa using hb
  subst e;obtain⟨o,e,c,d⟩:=st;exact⟨o,e,λv z=>by rw[d] at z;cases z⟩
 keep:=λi h h' st k=>st.at λo e=>k it (by simp) o e
 item:=by
  intro X hP hw hK hc i pins s σ H E I hf st hg;subst hP hw hK;obtain⟨xs,x,hq,hx⟩:=hg;obtain⟨its,rv,p,hz⟩:=I.list hq;obtain⟨u,hu,ru⟩:=rv.get hx;obtain⟨f0,f1,f2,f3,f4,f5⟩:=hf it (by simp);refine wpAny_pyNext_list_item st p.isList (x:=u) (by simpa using hu) λh' st' sb=>?_;have I1:Inv X pins σ H {s with heap:=h'}:=I.turned (t':=s.toks) (λb o hb e=>(sb.2 b hb).trans e) f0 f1 f3 f4 f5;obtain⟨o,e,c,d⟩:=id st'
  exact⟨u,rfl,anE (s:={s with heap:=h'}) e c d (by decide) ⟨x,H,I1,ru,⟨rfl,λys hy=>by rw[I.list_inj hy hq];exact hx⟩,st',λb hb=>(hf b hb).1⟩⟩
 done:=by
  intro X hP hw hK hc i pins s σ H E I hf st hg;subst hP hw hK;obtain⟨xs,hq,hx⟩:=hg;obtain⟨its,rv,p,hz⟩:=I.list hq;obtain⟨f0,f1,f2,f3,f4,f5⟩:=hf it (by simp);have hl:=rv.length;exact wpAny_pyNext_list_end (I.ok.hd hc) st p.isList (by simp;omega) λh' eb=>⟨rfl,I.turned (t':=s.toks) (λb o hb e=>eb b o hb e) f0 f1 f3 f4 f5⟩
 self:=λ_ _ _ _ _ st h=>wpAny_pyIter_listiter st h
theorem avN{P:Program}{w:World}{K:FG}{tg:Expr}(a it:Addr):Turn P w K tg (Itt K a) [it] it (λi h=>h.IsTupleIter it a i) where
 mem:=by simp
 obj:=λi h st b hb=>by
  have e:b=it:=by simpa using hb
  subst e;obtain⟨o,e,c,d⟩:=st;exact⟨o,e,λv z=>by rw[d] at z;cases z⟩
 keep:=λi h h' st k=>st.at λo e=>k it (by simp) o e
 item:=by
  intro X hP hw hK hc i pins s σ H E I hf st hg;subst hP hw hK;obtain⟨xs,x,hq,hx⟩:=hg;obtain⟨its,rv,p,hz⟩:=I.tuple hq;obtain⟨u,hu,ru⟩:=rv.get hx;obtain⟨f0,f1,f2,f3,f4,f5⟩:=hf it (by simp);refine wpAny_pyNext_tuple_item st (show s.heap.IsTuple a its.toArray from p) (x:=u) (by simpa using hu) λh' st' sb=>?_;have I1:Inv X pins σ H {s with heap:=h'}:=I.turned (t':=s.toks) (λb o hb e=>(sb.2 b hb).trans e) f0 f1 f3 f4 f5
  obtain⟨o,e,c,d⟩:=id st';exact⟨u,rfl,anE (s:={s with heap:=h'}) e c d (by decide) ⟨x,H,I1,ru,⟨rfl,λys hy=>by rw[I.tuple_inj hy hq];exact hx⟩,st',λb hb=>(hf b hb).1⟩⟩
 done:=by
  intro X hP hw hK hc i pins s σ H E I hf st hg;subst hP hw hK;obtain⟨xs,hq,hx⟩:=hg;obtain⟨its,rv,p,hz⟩:=I.tuple hq;obtain⟨f0,f1,f2,f3,f4,f5⟩:=hf it (by simp);have hl:=rv.length;exact wpAny_pyNext_tuple_end (I.ok.hd hc) st (show s.heap.IsTuple a its.toArray from p) (by simp;omega) λh' eb=>⟨rfl,I.turned (t':=s.toks) (λb o hb e=>eb b o hb e) f0 f1 f3 f4 f5⟩
 self:=λ_ _ _ _ _ st h=>wpAny_pyIter_tupleiter st h
theorem au1{P:Program}{w:World}{K:FG}{tg:Expr}(it:Addr)(lo:Int)(n:Nat):Turn P w K tg (Itr lo n) [it] it (λi h=>IsRangeIter h it (lo+(i:Nat)*1) ((n:Int)-(i:Nat)) 1) where
 mem:=by simp
 obj:=λi h st b hb=>by
  have e:b=it:=by simpa using hb
  subst e;exact⟨_,st,λv z=>by
   have z':Data.fields _=Data.cell v:=z;cases z'⟩
 keep:=λi h h' st k=>k it (by simp) _ st
 item:=by
  intro X hP hw hK hc i pins s σ H E I hf st hg;subst hP hw hK;obtain⟨f0,f1,f2,f3,f4,f5⟩:=hf it (by simp);have W:=Walks.range (prog:=X.prog) (w:=X.w) (I.ok.hd hc) it lo 1 n;refine W.item i s _ _ hg st λv h' tk hv st' kk=>?_;obtain⟨t,rfl⟩:=hv;have I1:Inv X pins σ H {s with heap:=h',toks:=tk}:=I.turned (λb o hb e=>kk b o (by simpa using hb) e) f0 f1 f3 f4 f5;refine⟨(),anE (s:={s with heap:=h',toks:=tk}) (n:="range_iterator") st' rfl rfl (by decide) ⟨.int (lo+i),H,I1,⟨t,?_⟩,⟨rfl,rfl⟩,st',λb hb=>(hf b hb).1⟩⟩
  rw[Int.mul_one]
 done:=by
  intro X hP hw hK hc i pins s σ H E I hf st hg;subst hP hw hK;obtain⟨f0,f1,f2,f3,f4,f5⟩:=hf it (by simp);exact wpAny_pyNext_range_end (I.ok.hd hc) st (by have:n<=i:=hg;omega) λh' eb=>⟨rfl,I.turned (t':=s.toks) (λb o hb e=>eb b o hb e) f0 f1 f3 f4 f5⟩
 self:=λ_ _ _ _ _ st h=>wpAny_pyIter_rangeiter st h
section
variable{X:Cx}{tg:Expr}
def aCE(K:FG)(tl:TE):TI:=λσ H R=>tl σ H λx H1=>∃a,x=.ref a/\(∃xs,SqL K H1 a xs)/\R (Itl K a) H1
def aL8(K:FG)(tl:TE):TI:=λσ H R=>tl σ H λx H1=>∃a,x=.ref a/\(∃xs,SqT K H1 a xs)/\R (Itt K a) H1
theorem aFV{l:Expr}{tl:TE}(hl:PE X l tl):PI X tg l (aCE X.K tl):=by
 intro pins s σ H R I h;refine thn (hl pins s σ H _ I h) λv s1 ⟨x,H1,I1,r1,q1⟩=>?_;obtain⟨a,e,⟨xs,hq⟩,q⟩:=q1;subst e;cases r1;obtain⟨its,rv,p,hz⟩:=I1.list hq;refine wpAny_pyIter_list p.isList ?_;refine⟨s1.heap.objs.size,[s1.heap.objs.size],_,_,H1,rfl,I1.kept (t':=s1.toks) λb o e=>aU _ e,azP a _,⟨_,a9 _ rfl,rfl,rfl⟩,λb hb=>?_,q⟩;have e:b=s1.heap.objs.size:=by simpa using hb
 subst e;exact I1.fpOk (aQ _) (I1.hok.fresh (aQ _))
theorem aI8{l:Expr}{tl:TE}(hl:PE X l tl):PI X tg l (aL8 X.K tl):=by
 intro pins s σ H R I h;refine thn (hl pins s σ H _ I h) λv s1 ⟨x,H1,I1,r1,q1⟩=>?_;obtain⟨a,e,⟨xs,hq⟩,q⟩:=q1;subst e;cases r1;obtain⟨its,rv,p,hz⟩:=I1.tuple hq;refine wpAny_pyIter_tuple (show s1.heap.IsTuple a its.toArray from p) ?_;refine⟨s1.heap.objs.size,[s1.heap.objs.size],_,_,H1,rfl,I1.kept (t':=s1.toks) λb o e=>aU _ e,avN a _,⟨_,a9 _ rfl,rfl,rfl⟩,λb hb=>?_,q⟩;have e:b=s1.heap.objs.size:=by simpa using hb
 subst e;exact I1.fpOk (aQ _) (I1.hok.fresh (aQ _))
theorem asY{pins:List (Addr×Obj)}{σ:St}{H:Hp}{s:Shared}{R:It->Hp->Prop}{E:Value->Shared->Prop}{lo hi:Int}{t u v:Tok}{tk:Nat}(I:Inv X pins σ H s)(h1: -(2^62)<=lo)(h2:lo<2^62)(h3: -(2^62)<=hi)(h4:hi<2^62)
  (q:R (Itr lo (hi-lo).toNat) H):wpAny (model X.prog X.w) X.A (pyIter (.ref s.heap.objs.size)) (PIE X pins σ tg R) E {s with heap:=s.heap.push {cls:=.type "range",data:=.fields #[.int lo t,.int hi u,.int 1 v]},toks:=tk}:=by
 refine wpAny_pyIter_range (IsRange.new ..) (small_one h1 h2 h3 h4) ?_;have I1:Inv X pins σ H {s with heap:=s.heap.push {cls:=.type "range",data:=.fields #[.int lo t,.int hi u,.int 1 v]},toks:=tk}:=I.kept λb o e=>aU _ e;refine⟨(s.heap.push {cls:=.type "range",data:=.fields #[.int lo t,.int hi u,.int 1 v]}).objs.size,[(s.heap.push {cls:=.type "range",data:=.fields #[.int lo t,.int hi u,.int 1 v]}).objs.size],_,_,H,rfl,
  I1.kept (t':=tk) λb o e=>aU _ e,au1 _ lo (hi-lo).toNat,?_,λb hb=>?_,q⟩
 ·have e1:lo+((0:Nat):Int)*1=lo:=by simp
  have e2:(((hi-lo).toNat:Nat):Int)-((0:Nat):Int)=Builtin.Range.rangeSize lo hi 1:=by rw[rangeSize_one];split<;>omega
  show IsRangeIter _ _ (lo+((0:Nat):Int)*1) ((((hi-lo).toNat:Nat):Int)-((0:Nat):Int)) 1;rw[e1,e2];exact a9 _ rfl
 ·have e:b=(s.heap.push {cls:=.type "range",data:=.fields #[.int lo t,.int hi u,.int 1 v]}).objs.size:=by simpa using hb
  subst e;exact I1.fpOk (aQ _) (I1.hok.fresh (aQ _))
def aGZ(ta:TA):TI:=λσ H R=>ta σ H λvs H1=>∃j:Int,vs=[.int j]/\ -(2^62)<=j/\j<2^62/\R (Itr 0 j.toNat) H1
def aHX(ta:TA):TI:=λσ H R=>ta σ H λvs H1=>∃i j:Int,vs=[.int i,.int j]/\(-(2^62)<=i/\i<2^62/\ -(2^62)<=j/\j<2^62)/\R (Itr i (j-i).toNat) H1
theorem ayQ{a:Expr}{ta:TA}{p pos:Pos}(hg:Gl X "range")(hm:X.mg "range"=none)(ha:PA X [a] ta)(hs:starEach [a] X.env=[(false,eval a X.env)]:=by rfl):PI X tg (.Call (.Name "range" p) [a] [] pos) (aGZ ta):=by
 intro pins s σ H R I h;refine Call_ (ahB I hg hm fA (PyProof.Rows.callWith_type1 (thn (ha pos pins s σ H _ I h) λus s1 ⟨vs,H1,I1,r1,q1⟩=>?_) hs rfl));obtain⟨j,e,q1,q2,q⟩:=q1;subst e;cases r1 with
 |cons r rr=>
  cases rr;obtain⟨t,rfl⟩:=r;exact call_range_1 (asY I1 ⋯ ⋯ q1 q2 (by simpa using q))
theorem ay9{a b:Expr}{ta:TA}{p pos:Pos}(hg:Gl X "range")(hm:X.mg "range"=none)(ha:PA X [a,b] ta)(hs:starEach [a,b] X.env=[(false,eval a X.env),(false,eval b X.env)]:=by rfl)(hs2:starEach [b] X.env=[(false,eval b X.env)]:=by rfl):
  PI X tg (.Call (.Name "range" p) [a,b] [] pos) (aHX ta):=by
 intro pins s σ H R I h;refine Call_ (ahB I hg hm fA (PyProof.Rows.callWith_type1 (thn (ha pos pins s σ H _ I h) λus s1 ⟨vs,H1,I1,r1,q1⟩=>?_) (by rw[hs,hs2]) (by rw[hs2];rfl)));obtain⟨i,j,e,⟨q1,q2,q3,q4⟩,q⟩:=q1;subst e;cases r1 with
 |cons r rr=>
  cases rr with
  |cons r' rr=>
   cases rr;obtain⟨t,rfl⟩:=r;obtain⟨t',rfl⟩:=r';exact call_range_2 (asY I1 q1 q2 q3 q4 q)
def aMW(wi:TI)(g:TG)(tb:TS):TS:=λD σ H=>wi σ H λJ H1=>∃W:Nat->Nat->St->Hp->Prop,(∃m,W 0 m σ H1)/\∀i m σ H,W i m σ H->
 (J.stop i H/\D.nx σ H)∨(J.go i H/\∃N:St->Hp->Prop,(∀σ' H',N σ' H'->∃m',m'<m/\W (i+1) m' σ' H')/\∀x H',J.yld i H x H'->g x σ H' λσ2 H2=>tb {D with nx:=N,ct:=N,bk:=D.nx} σ2 H2)
noncomputable def anI(fp:List Addr)(h:Heap):List (Addr×Obj):=fp.filterMap λb=>(h.get? b).map λo=>(b,o)
theorem aeC{fp:List Addr}{h:Heap}{b:Addr}{o:Obj}(hb:b∈fp)(e:h.get? b=some o):(b,o)∈anI fp h:=List.mem_filterMap.mpr ⟨b,hb,by rw[e];rfl⟩
theorem azF{fp:List Addr}{h:Heap}{p:Addr×Obj}(hp:p∈anI fp h):p.1∈fp/\h.get? p.1=some p.2:=by
 obtain⟨b,hb,e⟩:=List.mem_filterMap.mp hp;cases q:h.get? b with
 |none=>rw[q] at e;cases e
 |some o=>
  rw[q] at e;have e':(b,o)=p:=aZ e;subst e';exact⟨hb,q⟩
theorem Inv.pinned{pins:List (Addr×Obj)}{σ:St}{H:Hp}{s:Shared}{fp:List Addr}(I:Inv X pins σ H s)(hf:∀b∈fp,ahT X pins H b)(ho:∀b∈fp,∃o,s.heap.get? b=some o/\∀v,o.data≠ .cell v):Inv X (pins++anI fp s.heap) σ H s:=
 I.pins_of λp hp=>(bO.mp hp).elim (λz=>I.pin p (cD _ z)) λz=>by
  obtain⟨hb,e⟩:=azF z;obtain⟨f0,f1,f2,_⟩:=hf p.1 hb;obtain⟨o,e',d⟩:=ho p.1 hb;rw[e] at e';cases e';exact⟨e,f0,f1,f2,d⟩
theorem Inv.unpinned{pins pl:List (Addr×Obj)}{σ:St}{H:Hp}{s:Shared}(I:Inv X (pins++pl) σ H s):Inv X pins σ H s:=I.pins_of λp hp=>I.pin p (cD _ (dZ _ hp))
theorem aH4{iter:Expr}{body:List Stmt}{wi:TI}{g:TG}{tb:TS}{pos:Pos}(hp:PassesOwn (model X.prog X.w) X.A X.env X.xe)(hc:X.calm=true)(hi:PI X tg iter wi)(hg:PG X tg g)(hb:PSs X body tb)
  (hs:∀x,foldedSetIterable iter X.env x=pure x:=by intro _;rfl):PS X (.For tg iter body [] pos) (aMW wi g tb):=by
 intro pins s σ H D I h;refine wpAny_For (thn (hi pins s σ H _ I h) λv s1 h1=>thn h1 λitv s2 h2=>?_) hs;obtain⟨it,fp,tn,J,H2,e,I2,T,st2,f2,W,⟨m0,w0⟩,turn⟩:=h2;subst e
 -- what stays true of the iterator's objects through the loop
 have stat:∀{H':Hp},(∀b∈fp,H' b=none)->∀b∈fp,ahT X pins H' b:=λhn b hb=>⟨hn b hb,(f2 b hb).2⟩;refine codeAny_forLoop_any (λn s'=>∃i σ' H',Inv X pins σ' H' s'/\tn i s'.heap/\(∀b∈fp,H' b=none)/\W i n σ' H') ?_ m0 ⟨0,σ,H2,I2,st2,λb hb=>(f2 b hb).1,w0⟩;rintro n s3 ⟨i,σ3,H3,I3,st3,fr3,w3⟩;rcases turn i n σ3 H3 w3 with ⟨stop,qn⟩ | ⟨go,N,hN,step⟩
 ·refine eK hp (thn (T.done X rfl rfl rfl hc i pins s3 σ3 H3 X.xe I3 (stat fr3) st3 stop) λr s4 ⟨hr,I4⟩=>?_);subst hr;exact wpAny_execs_nil ⟨σ3,H3,I4,qn⟩
 ·refine eK hp (thn (T.item X rfl rfl rfl hc i pins s3 σ3 H3 X.xe I3 (stat fr3) st3 go) λr s4 ⟨u,hr,h4⟩=>?_);subst hr;refine eK hp (thn h4 λ_ s5 ⟨x,H5,I5,r5,y5,st5,fr5⟩=>?_);have I5':=I5.pinned (stat fr5) (T.obj _ _ st5);refine eK hp (thn (hg _ s5 σ3 H5 x u _ I5' r5 (step x H5 y5)) λ_ s6 ⟨σ6,H6,I6,q6⟩=>?_);refine eK hp (thn (hb _ s6 σ6 H6 _ I6 q6) λf s7 q7=>?_);have again:∀{σ7:St} {H7:Hp},Inv X (pins++anI fp s5.heap) σ7 H7 s7->N σ7 H7->∃m,m<n/\∃i σ' H',Inv X pins σ' H' s7/\tn i s7.heap/\(∀b∈fp,H' b=none)/\W i m σ' H':=λ{σ7 H7} I7 n7=>by
   obtain⟨m',hm,w7⟩:=hN σ7 H7 n7;refine⟨m',hm,i+1,σ7,H7,I7.unpinned,T.keep _ _ _ st5 λb hb o e=>(I7.pin (b,o) (cD _ (cD _ (aeC hb e)))).1,λb hb=>?_,w7⟩;obtain⟨o,e,d⟩:=T.obj _ _ st5 b hb;exact (I7.pin (b,o) (cD _ (cD _ (aeC hb e)))).2.1
  cases f with
  |next=>obtain⟨σ7,H7,I7,n7⟩:=q7;exact again I7 n7
  |cont=>obtain⟨σ7,H7,I7,n7⟩:=q7;exact again I7 n7
  |brk=>obtain⟨σ7,H7,I7,q7⟩:=q7;exact⟨σ7,H7,I7.unpinned,q7⟩
  |ret v=>obtain⟨x7,σ7,H7,I7,r7,q7⟩:=q7;exact⟨x7,σ7,H7,I7.unpinned,r7,q7⟩
end
theorem ab7{K:FG}{a:Addr}{xs:List V}{g:TG}{tb:TS}{D:Ends}{σ:St}{H:Hp}(Pv:Nat->St->Hp->Prop)(h0:Pv 0 σ H)(hl:∀i σ H,i<=xs.length->Pv i σ H->SqL K H a xs)
  (hs:∀i x σ H,xs[i]? =some x->Pv i σ H->g x σ H λσ2 H2=>tb {D with nx:=Pv (i+1),ct:=Pv (i+1),bk:=D.nx} σ2 H2) (hd:∀σ H,Pv xs.length σ H->D.nx σ H):
  ∃W:Nat->Nat->St->Hp->Prop,(∃m,W 0 m σ H)/\∀i m σ H,W i m σ H->
   ((Itl K a).stop i H/\D.nx σ H)∨((Itl K a).go i H/\∃N:St->Hp->Prop,(∀σ' H',N σ' H'->∃m',m'<m/\W (i+1) m' σ' H')/\∀x H',(Itl K a).yld i H x H'->g x σ H' λσ2 H2=>tb {D with nx:=N,ct:=N,bk:=D.nx} σ2 H2):=by
 refine⟨λi m σ H=>m=xs.length-i/\i<=xs.length/\Pv i σ H,⟨xs.length,by simp,bM _,h0⟩,?_⟩;rintro i m σ H ⟨rfl,hi,p⟩;have q:=hl i σ H hi p;by_cases hlt:i<xs.length
 ·refine .inr ⟨⟨xs,xs[i],q,by simp[hlt]⟩,Pv (i+1),λσ' H' p'=>⟨xs.length-(i+1),⋯,rfl,hlt,p'⟩,λx H' y=>?_⟩;obtain⟨e,y⟩:=y;subst e;exact hs i x σ _ (y xs q) p
 ·have e:i=xs.length:=⋯;subst e;exact .inl ⟨⟨xs,q,aQ _⟩,hd σ H p⟩
theorem aq3{K:FG}{a:Addr}{xs:List V}{g:TG}{tb:TS}{D:Ends}{σ:St}{H:Hp}(Pv:Nat->St->Hp->Prop)(h0:Pv 0 σ H)(hl:∀i σ H,i<=xs.length->Pv i σ H->SqT K H a xs)
  (hs:∀i x σ H,xs[i]? =some x->Pv i σ H->g x σ H λσ2 H2=>tb {D with nx:=Pv (i+1),ct:=Pv (i+1),bk:=D.nx} σ2 H2) (hd:∀σ H,Pv xs.length σ H->D.nx σ H):
  ∃W:Nat->Nat->St->Hp->Prop,(∃m,W 0 m σ H)/\∀i m σ H,W i m σ H->
   ((Itt K a).stop i H/\D.nx σ H)∨((Itt K a).go i H/\∃N:St->Hp->Prop,(∀σ' H',N σ' H'->∃m',m'<m/\W (i+1) m' σ' H')/\∀x H',(Itt K a).yld i H x H'->g x σ H' λσ2 H2=>tb {D with nx:=N,ct:=N,bk:=D.nx} σ2 H2):=by
 refine⟨λi m σ H=>m=xs.length-i/\i<=xs.length/\Pv i σ H,⟨xs.length,by simp,bM _,h0⟩,?_⟩;rintro i m σ H ⟨rfl,hi,p⟩;have q:=hl i σ H hi p;by_cases hlt:i<xs.length
 ·refine .inr ⟨⟨xs,xs[i],q,by simp[hlt]⟩,Pv (i+1),λσ' H' p'=>⟨xs.length-(i+1),⋯,rfl,hlt,p'⟩,λx H' y=>?_⟩;obtain⟨e,y⟩:=y;subst e;exact hs i x σ _ (y xs q) p
 ·have e:i=xs.length:=⋯;subst e;exact .inl ⟨⟨xs,q,aQ _⟩,hd σ H p⟩
theorem abG{lo:Int}{n:Nat}{g:TG}{tb:TS}{D:Ends}{σ:St}{H:Hp}(Pv:Nat->St->Hp->Prop)(h0:Pv 0 σ H)
  (hs:∀i σ H,i<n->Pv i σ H->g (.int (lo+i)) σ H λσ2 H2=>tb {D with nx:=Pv (i+1),ct:=Pv (i+1),bk:=D.nx} σ2 H2) (hd:∀σ H,Pv n σ H->D.nx σ H):
  ∃W:Nat->Nat->St->Hp->Prop,(∃m,W 0 m σ H)/\∀i m σ H,W i m σ H->
   ((Itr lo n).stop i H/\D.nx σ H)∨((Itr lo n).go i H/\∃N:St->Hp->Prop,(∀σ' H',N σ' H'->∃m',m'<m/\W (i+1) m' σ' H')/\∀x H',(Itr lo n).yld i H x H'->g x σ H' λσ2 H2=>tb {D with nx:=N,ct:=N,bk:=D.nx} σ2 H2):=by
 refine⟨λi m σ H=>m=n-i/\i<=n/\Pv i σ H,⟨n,by simp,bM _,h0⟩,?_⟩;rintro i m σ H ⟨rfl,hi,p⟩;by_cases hlt:i<n
 ·refine .inr ⟨hlt,Pv (i+1),λσ' H' p'=>⟨n-(i+1),⋯,rfl,hlt,p'⟩,λx H' y=>?_⟩;obtain⟨e,y⟩:=y;subst e y;exact hs i σ _ hlt p
 ·have e:i=n:=⋯;subst e;exact .inl ⟨aQ _,hd σ H p⟩
noncomputable abbrev R2:=V->V->Hp->VK->Prop
def OpR(X:Cx)(f:Value->Value->Sem Value)(r:R2):Prop:=
 ∀(pins:List (Addr×Obj)) (s:Shared) (σ:St) (H:Hp) (x y:V) (v u:Value) (Q:VK),Inv X pins σ H s->RelV x v->RelV y u->r x y H Q->
  wpAny (model X.prog X.w) X.A (f v u) (EP X pins σ Q) X.xe s
def UnR(X:Cx)(f:Value->Sem Value)(r:V->Hp->VK->Prop):Prop:=
 ∀(pins:List (Addr×Obj)) (s:Shared) (σ:St) (H:Hp) (x:V) (v:Value) (Q:VK),Inv X pins σ H s->RelV x v->r x H Q->
  wpAny (model X.prog X.w) X.A (f v) (EP X pins σ Q) X.xe s
def ad0(X:Cx)(f:Value)(r:List V->Hp->VK->Prop):Prop:=
 ∀(pins:List (Addr×Obj)) (s:Shared) (σ:St) (H:Hp) (xs:List V) (us:List Value) (Q:VK),Inv X pins σ H s->Vals xs us->r xs H Q->
  wpAny (model X.prog X.w) X.A (call f us) (EP X pins σ Q) X.xe s
def tOp(r:R2)(ta tb:TE):TE:=λσ H Q=>ta σ H λx H1=>tb σ H1 λy H2=>r x y H2 Q
def tUn(r:V->Hp->VK->Prop)(ta:TE):TE:=λσ H Q=>ta σ H λx H1=>r x H1 Q
def rI(C:Int->Int->Prop)(g:Int->Int->V):R2:=λx y H Q=>∃i j,x=.int i/\y=.int j/\C i j/\Q (g i j) H
def rI0(g:Int->Int->V):R2:=λx y H Q=>∃i j,x=.int i/\y=.int j/\Q (g i j) H
def rU(g:Int->V):V->Hp->VK->Prop:=λx H Q=>∃i,x=.int i/\Q (g i) H
section
variable{X:Cx}{a b c:Expr}{ta tb tc:TE}{pos:Pos}
theorem aH9(ha:PE X a ta)(hb:PE X b tb){pins:List (Addr×Obj)}{s:Shared}{σ:St}{H:Hp}{R:V->V->Hp->Prop}(I:Inv X pins σ H s)
  (h:ta σ H λx H1=>tb σ H1 λy H2=>R x y H2) {Q:Value->Shared->Prop} {f:Value->Value->Sem Value}
  (hf:∀v u s2 x y H2,Inv X pins σ H2 s2->RelV x v->RelV y u->R x y H2->wpAny (model X.prog X.w) X.A (f v u) Q X.xe s2):
  wpAny (model X.prog X.w) X.A (eval a X.env) (λv s₁=>wpAny (model X.prog X.w) X.A (eval b X.env) (λu s₂=>wpAny (model X.prog X.w) X.A (f v u) Q X.xe s₂) X.xe s₁) X.xe s:=by
 refine thn (ha pins s σ H _ I h) λv s1 ⟨x,H1,I1,r1,q1⟩=>?_;refine thn (hb pins s1 σ H1 _ I1 q1) λu s2 ⟨y,H2,I2,r2,q2⟩=>?_;exact hf v u s2 x y H2 I2 r1 r2 q2
theorem aT0{op:Operator}{r:R2}(ho:OpR X (binaryOp op) r)(ha:PE X a ta)(hb:PE X b tb):PE X (.BinOp a op b pos) (tOp r ta tb):=by
 intro pins s σ H Q I h;exact wpAny_BinOp (aH9 ha hb I h λv u s2 x y H2 I2 rx ry q=>ho pins s2 σ H2 x y v u Q I2 rx ry q)
theorem aPL{op:UnaryOp}{r:V->Hp->VK->Prop}(ho:UnR X (unaryOp op) r)(ha:PE X a ta):PE X (.UnaryOp op a pos) (tUn r ta):=by
 intro pins s σ H Q I h;exact UnaryOp_ (thn (ha pins s σ H _ I h) λv s1 ⟨x,H1,I1,r1,q1⟩=>ho pins s1 σ H1 x v Q I1 r1 q1)
theorem opI{f:Value->Value->Sem Value}{C:Int->Int->Prop}{g:Int->Int->Int}
  (rule:∀(i j:Int) (t u:Tok) (s:Shared) (Q:Value->Shared->Prop) (E:Value->Shared->Prop),C i j->Q (.int (g i j) s.toks) {s with toks:=s.toks+1}->wpAny (model X.prog X.w) X.A (f (.int i t) (.int j u)) Q E s):
  OpR X f (rI C λi j=>.int (g i j)):=by
 intro pins s σ H x y v u Q I rx ry h;obtain⟨i,j,rfl,rfl,hc,q⟩:=h;obtain⟨t,rfl⟩:=rx;obtain⟨t',rfl⟩:=ry;exact rule i j t t' s _ _ hc ⟨.int (g i j),H,I.tok _,⟨()⟩,q⟩
theorem aGV{f:Value->Value->Sem Value}{g:Int->Int->Int}
  (rule:∀(i j:Int) (t u:Tok) (s:Shared) (Q:Value->Shared->Prop) (E:Value->Shared->Prop),Q (.int (g i j) s.toks) {s with toks:=s.toks+1}->wpAny (model X.prog X.w) X.A (f (.int i t) (.int j u)) Q E s):
  OpR X f (rI0 λi j=>.int (g i j)):=by
 intro pins s σ H x y v u Q I rx ry h;obtain⟨i,j,rfl,rfl,q⟩:=h;obtain⟨t,rfl⟩:=rx;obtain⟨t',rfl⟩:=ry;exact rule i j t t' s _ _ ⟨.int (g i j),H,I.tok _,⟨()⟩,q⟩
theorem aGQ{f:Value->Value->Sem Value}{g:Int->Int->Bool}
  (rule:∀(i j:Int) (t u:Tok) (s:Shared) (Q:Value->Shared->Prop) (E:Value->Shared->Prop),Q (.bool (g i j)) s->wpAny (model X.prog X.w) X.A (f (.int i t) (.int j u)) Q E s):
  OpR X f (rI0 λi j=>.bl (g i j)):=by
 intro pins s σ H x y v u Q I rx ry h;obtain⟨i,j,rfl,rfl,q⟩:=h;obtain⟨t,rfl⟩:=rx;obtain⟨t',rfl⟩:=ry;exact rule i j t t' s _ _ ⟨.bl (g i j),H,I,rfl,q⟩
def aL0(i j:Int):Prop:=0<j/\j<1073741824
def aFU(i j:Int):Prop:=0<=j/\j<=1000000/\i.natAbs<2^64
def CMul(i j:Int):Prop:=(-(2^64)<i/\i<2^64)∨(-(2^64)<j/\j<2^64)
theorem CMul.ok{i j:Int}(h:CMul i j):IntMulOk i j:=by
 rcases h with ⟨h1,h2⟩ | ⟨h1,h2⟩
 ·exact .of_left (intBits_le_64 h1 h2)
 ·exact .of_right (intBits_le_64 h1 h2)
theorem avM(k:Nat):(0:Int)<=2^k:=by
 rw[two_pow_cast];exact dO _
theorem aIW:OpR X (binaryOp .Add) (rI0 λi j=>.int (i+j)):=aGV λ_ _ _ _ _ _ _ q=>add_int q
theorem aH7:OpR X (binaryOp .Sub) (rI0 λi j=>.int (i-j)):=aGV λ_ _ _ _ _ _ _ q=>sub_int q
theorem aIY:OpR X (binaryOp .Mult) (rI CMul λi j=>.int (i*j)):=opI λ_ _ _ _ _ _ _ hc q=>mul_int q hc.ok
theorem aEQ:OpR X (binaryOp .FloorDiv) (rI aL0 λi j=>.int (i / j)):=opI λi j _ _ _ _ _ hc q=>by
 have h1:(0:Int)<j:=hc.1;have h2:j<1073741824:=hc.2;exact floordiv_int ⋯ (by rw[Int.fdiv_eq_ediv_of_nonneg i ⋯];exact q) (.inl (PyProof.noPylong_small ⋯))
theorem aI3:OpR X (binaryOp .Mod) (rI (λ_ j=>0<j) λi j=>.int (i%j)):=opI λi j _ _ _ _ _ hc q=>by
 have h1:(0:Int)<j:=hc;exact mod_int' ⋯ (by rw[Int.fmod_eq_emod_of_nonneg i ⋯];exact q)
theorem aIA:OpR X (binaryOp .Pow) (rI aFU λi j=>.int (i^j.toNat)):=opI λ_ _ _ _ _ _ _ hc q=>pow_int_small hc.1 hc.2.1 hc.2.2 q
theorem aJO:OpR X (binaryOp .LShift) (rI aFU λi j=>.int (i*2^j.toNat)):=opI λ_ _ _ _ _ _ _ hc q=>lshift_int_small hc.1 hc.2.1 hc.2.2 q
theorem aII:OpR X (binaryOp .RShift) (rI (λ_ j=>0<=j) λi j=>.int (i / 2^j.toNat)):=opI λi j _ _ _ _ _ hc q=>
 rshift_int hc (by rw[Int.fdiv_eq_ediv_of_nonneg i (avM _)];exact q)
theorem aID:OpR X (binaryOp .BitAnd) (rI0 λi j=>.int (Builtin.bitAnd i j)):=aGV λ_ _ _ _ _ _ _ q=>and_int q
theorem aMJ:OpR X (binaryOp .BitOr) (rI0 λi j=>.int (Builtin.bitOr i j)):=aGV λ_ _ _ _ _ _ _ q=>or_int q
theorem unI{f:Value->Sem Value}{g:Int->Int}
  (rule:∀(i:Int) (t:Tok) (s:Shared) (Q:Value->Shared->Prop) (E:Value->Shared->Prop),Q (.int (g i) s.toks) {s with toks:=s.toks+1}->wpAny (model X.prog X.w) X.A (f (.int i t)) Q E s):
  UnR X f (rU λi=>.int (g i)):=by
 intro pins s σ H x v Q I rx h;obtain⟨i,rfl,q⟩:=h;obtain⟨t,rfl⟩:=rx;exact rule i t s _ _ ⟨.int (g i),H,I.tok _,⟨()⟩,q⟩
theorem aH8:UnR X (unaryOp .USub) (rU λi=>.int (-i)):=unI λ_ _ _ _ _ q=>neg_int q
end
noncomputable def aP9:V->V->Bool
 |.non,.non=>true | .non,.int _=>true | .int _,.non=>true | .non,.bl _=>true | .bl _,.non=>true | .non,.str _=>true | .str _,.non=>true
 |.int _,.int _=>true | .bl _,.bl _=>true | .str _,.str _=>true | .byt _,.byt _=>true
 |.int _,.str _=>true | .str _,.int _=>true | .bl _,.str _=>true | .str _,.bl _=>true
 |_,_=>false
def rEq:R2:=λx y H Q=>aP9 x y=true/\Q (.bl (decide (x=y))) H
def rNe:R2:=λx y H Q=>aP9 x y=true/\Q (.bl (!decide (x=y))) H
theorem adK{i j:Int}:decide (V.int i=V.int j)=(i==j):=by
 rw[c8];simp
theorem aDN{i j:Bool}:decide (V.bl i=V.bl j)=(i==j):=by
 rw[c8];simp
theorem axH{i j:Str}:decide (V.str i=V.str j)=(i==j):=by
 rw[c8];simp
theorem aw6{i j:Array UInt8}:decide (V.byt i=V.byt j)=(i.toList==j.toList):=by
 rw[c8];cases i;cases j;simp
section
variable{X:Cx}{a b c:Expr}{ta tb tc:TE}{pos:Pos}
theorem aaS{pins:List (Addr×Obj)}{σ:St}{H:Hp}{s:Shared}{Q:VK}{k k':Bool}(I:Inv X pins σ H s)(q:Q (.bl k) H)(e:k=k'):EP X pins σ Q (.bool k') s:=by
 subst e;exact⟨.bl k,H,I,rfl,q⟩
theorem aND:OpR X (compareOp .Eq) rEq:=by
 intro pins s σ H x y v u Q I rx ry h;obtain⟨hs,q⟩:=h;cases x with
 |non=>
  cases rx;cases y with
  |non=>cases ry;exact PySem.EqNone.eq_none_none (aaS I q (by simp))
  |bl j=>cases ry;exact PySem.EqNone.eq_none_bool (aaS I q (by simp))
  |int j=>obtain⟨t',rfl⟩:=ry;exact PySem.EqNone.eq_none_int (aaS I q (by simp))
  |str j=>obtain⟨t',rfl⟩:=ry;exact PySem.EqNone.eq_none_str (aaS I q (by simp))
  |_=>exact absurd (show false=true from hs) a8
 |bl i=>
  cases rx;cases y with
  |non=>cases ry;exact PySem.EqNone.eq_bool_none (aaS I q (by simp))
  |bl j=>cases ry;exact eq_bool (aaS I q aDN)
  |str j=>obtain⟨t',rfl⟩:=ry;exact PySem.EqMixed.eq_bool_str (aaS I q (by simp))
  |_=>exact absurd (show false=true from hs) a8
 |int i=>
  obtain⟨t,rfl⟩:=rx;cases y with
  |non=>cases ry;exact PySem.EqNone.eq_int_none (aaS I q (by simp))
  |int j=>obtain⟨t',rfl⟩:=ry;exact eq_int (aaS I q adK)
  |str j=>obtain⟨t',rfl⟩:=ry;exact PySem.EqMixed.eq_int_str (aaS I q (by simp))
  |_=>exact absurd (show false=true from hs) a8
 |str i=>
  obtain⟨t,rfl⟩:=rx;cases y with
  |non=>cases ry;exact PySem.EqNone.eq_str_none (aaS I q (by simp))
  |bl j=>cases ry;exact PySem.EqMixed.eq_str_bool (aaS I q (by simp))
  |int j=>obtain⟨t',rfl⟩:=ry;exact PySem.EqMixed.eq_str_int (aaS I q (by simp))
  |str j=>obtain⟨t',rfl⟩:=ry;exact eq_str (aaS I q axH)
  |_=>exact absurd (show false=true from hs) a8
 |byt i=>
  obtain⟨t,rfl⟩:=rx;cases y with
  |byt j=>obtain⟨t',rfl⟩:=ry;exact PySem.W.eq_bytes (aaS I q aw6)
  |_=>exact absurd (show false=true from hs) a8
 |_=>cases y<;>exact absurd (show false=true from hs) a8
theorem aO5:OpR X (compareOp .NotEq) rNe:=by
 intro pins s σ H x y v u Q I rx ry h;obtain⟨hs,q⟩:=h;cases x with
 |non=>
  cases rx;cases y with
  |non=>cases ry;exact PySem.EqNone.ne_none_none (aaS I q (by simp))
  |bl j=>cases ry;exact PySem.EqNone.ne_none_bool (aaS I q (by simp))
  |int j=>obtain⟨t',rfl⟩:=ry;exact PySem.EqNone.ne_none_int (aaS I q (by simp))
  |str j=>obtain⟨t',rfl⟩:=ry;exact PySem.EqNone.ne_none_str (aaS I q (by simp))
  |_=>exact absurd (show false=true from hs) a8
 |bl i=>
  cases rx;cases y with
  |non=>cases ry;exact PySem.EqNone.ne_bool_none (aaS I q (by simp))
  |bl j=>cases ry;exact ne_bool (aaS I q (congrArg not aDN))
  |str j=>obtain⟨t',rfl⟩:=ry;exact PySem.EqMixed.ne_bool_str (aaS I q (by simp))
  |_=>exact absurd (show false=true from hs) a8
 |int i=>
  obtain⟨t,rfl⟩:=rx;cases y with
  |non=>cases ry;exact PySem.EqNone.ne_int_none (aaS I q (by simp))
  |int j=>obtain⟨t',rfl⟩:=ry;exact ne_int (aaS I q (congrArg not adK))
  |str j=>obtain⟨t',rfl⟩:=ry;exact PySem.EqMixed.ne_int_str (aaS I q (by simp))
  |_=>exact absurd (show false=true from hs) a8
 |str i=>
  obtain⟨t,rfl⟩:=rx;cases y with
  |non=>cases ry;exact PySem.EqNone.ne_str_none (aaS I q (by simp))
  |bl j=>cases ry;exact PySem.EqMixed.ne_str_bool (aaS I q (by simp))
  |int j=>obtain⟨t',rfl⟩:=ry;exact PySem.EqMixed.ne_str_int (aaS I q (by simp))
  |str j=>obtain⟨t',rfl⟩:=ry;exact ne_str (aaS I q (congrArg not axH))
  |_=>exact absurd (show false=true from hs) a8
 |byt i=>
  obtain⟨t,rfl⟩:=rx;cases y with
  |byt j=>obtain⟨t',rfl⟩:=ry;exact PySem.W.ne_bytes (aaS I q (congrArg not aw6))
  |_=>exact absurd (show false=true from hs) a8
 |_=>cases y<;>exact absurd (show false=true from hs) a8
theorem aOR:OpR X (compareOp .Lt) (rI0 λi j=>.bl (decide (i<j))):=aGQ λ_ _ _ _ _ _ _ q=>lt_int q
theorem aT3:OpR X (compareOp .LtE) (rI0 λi j=>.bl (decide (i<=j))):=aGQ λ_ _ _ _ _ _ _ q=>le_int q
theorem aQ5:OpR X (compareOp .Gt) (rI0 λi j=>.bl (decide (j<i))):=aGQ λ_ _ _ _ _ _ _ q=>gt_int q
theorem aOW:OpR X (compareOp .GtE) (rI0 λi j=>.bl (decide (j<=i))):=aGQ λ_ _ _ _ _ _ _ q=>ge_int q
theorem ay2:OpR X (compareOp .In) (λx y H Q=>∃i j,x=.str i/\y=.str j/\Q (.bl (!(Builtin.Str.occurrences j i 0 j.length 1).isEmpty)) H):=by
 intro pins s σ H x y v u Q I rx ry h;obtain⟨i,j,rfl,rfl,q⟩:=h;obtain⟨t,rfl⟩:=rx;obtain⟨t',rfl⟩:=ry;exact in_str (aaS I q rfl)
theorem aJG:OpR X (compareOp .Is) (λx y H Q=>y=.non/\Q (.bl (decide (x=.non))) H):=by
 intro pins s σ H x y v u Q I rx ry h;obtain⟨rfl,q⟩:=h;cases ry;refine is_none_gen (aaS I q ?_);cases x<;>first
  |(cases rx;rfl)
  |(obtain⟨t,rfl⟩:=rx;rfl)
theorem aGL:OpR X (compareOp .IsNot) (λx y H Q=>y=.non/\Q (.bl (!decide (x=.non))) H):=by
 intro pins s σ H x y v u Q I rx ry h;obtain⟨rfl,q⟩:=h;cases ry;refine isnot_none_gen (aaS I q ?_);cases x<;>first
  |(cases rx;rfl)
  |(obtain⟨t,rfl⟩:=rx;rfl)
theorem aC7(b:Expr){op:CmpOp}(h:op≠ .In:=by decide)(h2:op≠ .NotIn:=by decide):behindInMarks op b=false:=by
 have e1:(op==CmpOp.In)=false:=by cases op<;>first | rfl | exact absurd rfl h
 have e2:(op==CmpOp.NotIn)=false:=by cases op<;>first | rfl | exact absurd rfl h2
 cases b<;>simp[behindInMarks,e1,e2]
theorem aFA{op:CmpOp}{r:R2}(ho:OpR X (compareOp op) r)(ha:PE X a ta)(hb:PE X b tb)(hm:behindInMarks op b=false):PE X (.Compare a [op] [b] pos) (tOp r ta tb):=by
 intro pins s σ H Q I h;exact wpAny_Compare1 (aH9 ha hb I h λv u s2 x y H2 I2 rx ry q=>ho pins s2 σ H2 x y v u Q I2 rx ry q) hm
def axJ(t:TE):TT:=λσ H Q=>t σ H λx H'=>∃k,x=.bl k/\Q k H'
theorem aES{op:CmpOp}{r:R2}(ho:OpR X (compareOp op) r)(ha:PE X a ta)(hb:PE X b tb)(hm:behindInMarks op b=false):PT X (.Compare a [op] [b] pos) (axJ (tOp r ta tb)):=by
 intro pins s σ H Q I h;refine wpAny_isTrue_Compare1 (thn (ha pins s σ H _ I h) λv s1 ⟨x,H1,I1,r1,q1⟩=>thn (hb pins s1 σ H1 _ I1 q1) λu s2 ⟨y,H2,I2,r2,q2⟩=>
  thn (ho pins s2 σ H2 x y v u _ I2 r1 r2 q2) λc s3 ⟨z,H3,I3,r3,k,e,q3⟩=>?_) hm
 subst e;cases r3;exact fG ⟨H3,I3,q3⟩
def ar2(r r':R2)(ta tb tc:TE):TE:=λσ H Q=>ta σ H λx H1=>tb σ H1 λy H2=>r x y H2 λz H3=>∃k,z=.bl k/\
 (if k=true then tc σ H3 λw' H4=>r' y w' H4 Q else Q (.bl false) H3)
theorem aCU{op op':CmpOp}{r r':R2}(ho:OpR X (compareOp op) r)(ho':OpR X (compareOp op') r')(ha:PE X a ta)(hb:PE X b tb)(hc:PE X c tc)
  (hm:lastMarks [op,op'] [b,c]=false:=by with_unfolding_all rfl):PE X (.Compare a [op,op'] [b,c] pos) (ar2 r r' ta tb tc):=by
 intro pins s σ H Q I h;refine Compare_chain (thn (ha pins s σ H _ I h) λv s1 ⟨x,H1,I1,r1,q1⟩=>chain_link (thn (hb pins s1 σ H1 _ I1 q1) λu s2 ⟨y,H2,I2,r2,q2⟩=>
  thn (ho pins s2 σ H2 x y v u _ I2 r1 r2 q2) λd s3 ⟨z,H3,I3,r3,k,e,q3⟩=>?_)) hm
 subst e;cases r3;refine fG ?_;cases k with
 |false=>exact ite_ff ⟨.bl false,H3,I3,rfl,q3⟩
 |true=>exact ite_tt (chain_last (thn (hc pins s3 σ H3 _ I3 q3) λw' s4 ⟨z',H4,I4,r4,q4⟩=>ho' pins s4 σ H4 y z' u w' Q I4 r2 r4 q4))
theorem aAX{op op':CmpOp}{r r':R2}(ho:OpR X (compareOp op) r)(ho':OpR X (compareOp op') r')(ha:PE X a ta)(hb:PE X b tb)(hc:PE X c tc)
  (hm:lastMarks [op,op'] [b,c]=false:=by with_unfolding_all rfl):PT X (.Compare a [op,op'] [b,c] pos) (axJ (ar2 r r' ta tb tc)):=by
 intro pins s σ H Q I h;refine isTrue_chain (thn (ha pins s σ H _ I h) λv s1 ⟨x,H1,I1,r1,q1⟩=>test_link (thn (hb pins s1 σ H1 _ I1 q1) λu s2 ⟨y,H2,I2,r2,q2⟩=>
  thn (ho pins s2 σ H2 x y v u _ I2 r1 r2 q2) λd s3 ⟨z,H3,I3,r3,k,e,q3⟩=>?_)) hm
 subst e;cases r3;refine fG ?_;cases k with
 |false=>
  obtain⟨k',e',q'⟩:=q3;cases e';exact ite_ff ⟨H3,I3,q'⟩
 |true=>
  refine ite_tt (test_last (thn (hc pins s3 σ H3 _ I3 q3) λw' s4 ⟨z',H4,I4,r4,q4⟩=>thn (ho' pins s4 σ H4 y z' u w' _ I4 r2 r4 q4) λd' s5 ⟨z2,H5,I5,r5,k2,e2,q5⟩=>?_));subst e2;cases r5;exact fG ⟨H5,I5,q5⟩
theorem ajG:(sizeLine:Nat)<2^63:=by rw[eU];decide
theorem au0:OpR X (binaryOp .Add) (λx y H Q=>∃i j,x=.str i/\y=.str j/\i.length+j.length<=sizeLine/\Q (.str (i++j)) H):=by
 intro pins s σ H x y v u Q I rx ry h;obtain⟨i,j,rfl,rfl,hz,q⟩:=h;obtain⟨t,rfl⟩:=rx;obtain⟨t',rfl⟩:=ry;exact add_str (λt' tk=>⟨.str (i++j),H,I.tok _,⟨()⟩,q⟩) hz
theorem acC{x:V}{us:List Value}(r:Vals [x] us):∃u,us=[u]/\RelV x u:=by
 cases r with
 |cons r1 r2=>cases r2;exact⟨(),r1⟩
theorem aoS{x y:V}{us:List Value}(r:Vals [x,y] us):∃u w',us=[u,w']/\RelV x u/\RelV y w':=by
 cases r with
 |cons r1 r2=>
  cases r2 with
  |cons r3 r4=>cases r4;exact⟨_,(),r1,r3⟩
theorem aAU:ad0 X (.builtin "abs") (λxs H Q=>∃i,xs=[.int i]/\Q (.int (if i<0 then -i else i)) H):=by
 intro pins s σ H xs us Q I r h;obtain⟨i,rfl,q⟩:=h;obtain⟨u,rfl,t,rfl⟩:=acC r;exact call_abs_int λu tk=>⟨.int (if i<0 then -i else i),H,I.tok _,⟨()⟩,q⟩
theorem az8(hc:X.calm=true):ad0 X (.builtin "max") (λxs H Q=>∃i j,xs=[.int i,.int j]/\Q (.int (if j>i then j else i)) H):=by
 intro pins s σ H xs us Q I r h;obtain⟨i,j,rfl,q⟩:=h;obtain⟨u,w',rfl,⟨t,rfl⟩,⟨t',rfl⟩⟩:=aoS r;refine max_two_ints (I.ok.hd hc) λh' tk k=>⟨_,H,I.kept k,?_,q⟩;by_cases hj:j>i
 ·rw[if_pos hj,if_pos hj];exact⟨()⟩
 ·rw[if_neg hj,if_neg hj];exact⟨()⟩
theorem aAA(hc:X.calm=true):ad0 X (.builtin "min") (λxs H Q=>∃i j,xs=[.int i,.int j]/\Q (.int (if j<i then j else i)) H):=by
 intro pins s σ H xs us Q I r h;obtain⟨i,j,rfl,q⟩:=h;obtain⟨u,w',rfl,⟨t,rfl⟩,⟨t',rfl⟩⟩:=aoS r;refine min_two_ints (I.ok.hd hc) λh' tk k=>⟨_,H,I.kept k,?_,q⟩;by_cases hj:j<i
 ·rw[if_pos hj,if_pos hj];exact⟨()⟩
 ·rw[if_neg hj,if_neg hj];exact⟨()⟩
theorem azZ:ad0 X (.type "int") (λxs H Q=>(∃i,xs=[.int i]/\Q (.int i) H)∨∃k,xs=[.bl k]/\Q (.int (if k then 1 else 0)) H):=by
 intro pins s σ H xs us Q I r h;rcases h with ⟨i,rfl,q⟩ | ⟨k,rfl,q⟩
 ·obtain⟨u,rfl,t,rfl⟩:=acC r;exact call_int_int ⟨.int i,H,I,⟨()⟩,q⟩
 ·obtain⟨u,rfl,r1⟩:=acC r;cases r1;exact call_int_bool ⟨.int (if k then 1 else 0),H,I.tok _,⟨()⟩,q⟩
theorem arD:ad0 X (.type "str") (λxs H Q=>∃i,xs=[.int i]/\i.natAbs.log2<1920/\Q (.str (toString i)) H):=by
 intro pins s σ H xs us Q I r h;obtain⟨i,rfl,hz,q⟩:=h;obtain⟨u,rfl,t,rfl⟩:=acC r;exact PySem.P.str_of_int hz ⟨.str _,H,I.tok _,⟨()⟩,q⟩
end
structure ObjM(h:Heap)(x dx C:Addr)(mA:Str->Option Value):Prop where
 obj:h.get? x=some (PySem.W.instObj C dx)
 ns:h.Ns1 dx mA
 ne:dx≠x
theorem azN{h:Heap}{dx:Addr}{mA:Str->Option Value}(n:h.Ns1 dx mA):∃od,h.get? dx=some od/\∀name,PySem.W.lookIn name od=some (mA name):=by
 obtain⟨o,es,ep,ho,hd,hk,_,hm⟩:=n;refine⟨o,ho,λname=>?_⟩;have e:=hm name;unfold nsFind findBy at e;rw[←Array.find?_toList] at e;unfold PySem.W.lookIn;rw[hd];dsimp only;split
 ·rename_i y q;rw[q] at e;exact congrArg some e
 ·rename_i q;rw[q] at e;have a:es.toList.any (·.refKey)=false:=by
   rw[dC];intro y hy;obtain⟨z,t,hkey⟩:=hk y (Array.mem_toList_iff.mp hy);simp[DictEntry.refKey,hkey]
  have a':¬es.toList.any (·.refKey)=true:=by rw[a];exact a8
  rw[if_neg a'];exact congrArg some e
theorem ObjM.look{h:Heap}{x dx C:Addr}{mA:Str->Option Value}(I:ObjM h x dx C mA):∃od,PySem.W.InstAt h x (PySem.W.instObj C dx) C (some od)/\∀name,PySem.W.lookIn name od=some (mA name):=
 let ⟨od,ho,hl⟩:=azN I.ns
 ⟨od,⟨I.obj,rfl,rfl,ho⟩,hl⟩
section
variable{prog:Program}{w:World}{A:Around}{E:Value->Shared->Prop}{s:Shared}{K:FG}{x dx C f:Addr}{mA:Str->Option Value}{name:Str}{v:Value}
theorem aF8{expr:Bool}{Q:Value->Shared->Prop}(X:K.In s.heap)(I:ObjM s.heap x dx C mA)(hg:PySem.W.plainGet K C name=true)(hh:PySem.W.hasDictIn K C=true)
  (ha:PySem.W.findIn K (.ref C) name=some none) (hv:mA name=some v) (hv':PySem.W.handedIn v=true) (h:Q v {s with toks:=s.toks+1}):
  wpAny (model prog w) A (getAttr (.ref x) name expr) Q E s:=by
 obtain⟨od,J,hl⟩:=I.look;exact PySem.W.get_value X J (PySem.W.plainGet_of hg).1 (PySem.W.findObj_own hh ha rfl (by rw[hl,hv])) hv' h
theorem aD6{pl:Sem Bool}{Q:Value×List Value->Shared->Prop}(X:K.In s.heap)(I:ObjM s.heap x dx C mA)(hg:PySem.W.plainGet K C name=true)
  (hf:PySem.W.findIn K (.ref C) name=some (some (.ref f))) (ht:PySem.W.isFn K (.ref f)=true) (hv:mA name=none) (h:Q (.ref f,[.ref x]) s):
  wpAny (model prog w) A (getMethod (.ref x) name pl) Q E s:=by
 obtain⟨od,J,hl⟩:=I.look;exact PySem.W.method_fn X J (PySem.W.plainGet_of hg).1 (PySem.W.plainGet_of hg).2 hf (beq_iff_eq.mp ht) (by show (PySem.W.lookIn name od).map (·.isSome)=some false;rw[hl,hv];rfl) h
theorem aEB{ns:List Str}{Q:Unit->Shared->Prop}(X:K.In s.heap)(I:ObjM s.heap x dx C mA)
  (hs:PySem.W.findIn K (.ref C) "__setattr__"=some (some (.builtin "object.__setattr__"))) (hp:PySem.W.plainOver K C=true) (ht:PySem.W.takerIn K C name=some none) (hh:PySem.W.hasDictIn K C=true)
  (hw:PySem.Within mA ns) (hsz:ns.length<=sizeLine)
  (h:∀h',ObjM h' x dx C (λy=>if y=name then some v else mA y)->Heap.SameBut dx s.heap h'->Q () {s with heap:=h',toks:=s.toks+2}):
  wpAny (model prog w) A (setAttr (.ref x) name v) Q E s:=by
 obtain⟨od,J,hl⟩:=I.look;refine PySem.W.set_plain X J hs (PySem.W.osa_open (s:={s with toks:=s.toks+1}) (r:=none) X J hp ht λb=>?_);obtain⟨cd,hc,hd'⟩:=PySem.W.any_some hh;have hx:s.heap.get? x=some ⟨.ref C,some dx,.plain,#[]⟩:=I.obj;refine eP (fF (eP (eP (wpAny_loadPart hx (eP (PySem.W.Looks.here (s:={s with toks:=s.toks+1}) (PySem.W.looks_clsIn X hc) ?_))))));rw[hd'];refine fF (a:=some dx) (eP (fF (eP ?_)))
 refine wpAny_nsSet1 (s:={s with toks:=s.toks+1}) I.ns λh' hn2 hs2=>?_;obtain⟨oD,esD,epD,hoD,hdD,hcD⟩:=hn2.count (PySem.Within.cons name v hw);refine eP (wpAny_lookBehind hoD (by rw[hdD];exact pastItsLine_dict (bL hcD (by rw[bZ];omega))) ?_);exact fF (h _ ⟨(hs2.2 _ (Ne.symm I.ne)).trans I.obj,hn2,I.ne⟩ hs2)
theorem aB5{R:Result->Shared->Prop}{vs:List Value}{kw:List (Str×Value)}(X:K.In s.heap)(hm:PySem.W.makesIn K C=true)
  (hi:PySem.W.findIn K (.ref C) "__init__"=some (some (.ref f))) (hf:PySem.W.typeIn K (.ref f)=some (.type "function"))
  (h:codeAny (model prog w) (A.under (.builtin "type.__call__" ⟨.ref C::vs,kw⟩)) (.call (.ref f) ⟨.ref (s.heap.objs.size+1)::vs,kw⟩) (PySem.W.InitBack (s.heap.objs.size+1) R)
   {s with heap:=(s.heap.push PySem.W.emptyDict).push (PySem.W.instObj C s.heap.objs.size)}):
  codeAny (model prog w) A (.call (.ref C) ⟨vs,kw⟩) R s:=by
 obtain⟨hh,g,d,t,os⟩:=s;exact PySem.W.make_core (PySem.W.makes_of X hm) (PySem.W.looks_findIn X hi) (λself=>PySem.W.bind_fn X self hf) (.inl rfl) h
theorem ayW{R:Result->Shared->Prop}(X:K.In s.heap)(hm:PySem.W.makesIn K C=true)
  (hi:PySem.W.findIn K (.ref C) "__init__"=some (some (.builtin "object.__init__")))
  (hb:∀self,PySem.W.Looks (model prog w) s.heap (bindSpecial (.builtin "object.__init__") self) (.builtin "object.__init__",[self]))
  (h:codeAny (model prog w) (A.under (.builtin "type.__call__" ⟨[.ref C],[]⟩)) (.call (.builtin "object.__init__") ⟨[.ref (s.heap.objs.size+1)],[]⟩) (PySem.W.InitBack (s.heap.objs.size+1) R)
   {s with heap:=(s.heap.push PySem.W.emptyDict).push (PySem.W.instObj C s.heap.objs.size)}):
  codeAny (model prog w) A (.call (.ref C) ⟨[],[]⟩) R s:=by
 obtain⟨hh,g,d,t,os⟩:=s;exact PySem.W.make_core (PySem.W.makes_of X hm) (PySem.W.looks_findIn X hi) hb (.inr ⟨rfl,rfl⟩) h
end
noncomputable def aaT(f:Str)(v:V):List (Str×V)->List (Str×V)
 |[]=>[(f,v)]
 |(g,x)::r=>if g=f then (g,v)::r else (g,x)::aaT f v r
theorem aaE(f g:Str)(v:V):∀fs:List (Str×V),(aaT f v fs).lookup g=if g=f then some v else fs.lookup g
 |[]=>by
  show List.lookup g [(f,v)]=_;by_cases h:g=f
  ·have hb:(g==f)=true:=beq_iff_eq.mpr h;simp only[List.lookup,hb,if_pos h]
  ·have hb:(g==f)=false:=beq_eq_false_iff_ne.mpr h;simp only[List.lookup,hb,if_neg h]
 |(k,x)::r=>by
  have ih:=aaE f g v r;rw[show aaT f v ((k,x)::r)=(if k=f then (k,v)::r else (k,x)::aaT f v r) from rfl];by_cases hk:k=f
  ·rw[if_pos hk];by_cases h:g=k
   ·have hb:(g==k)=true:=beq_iff_eq.mpr h;simp only[List.lookup,hb,if_pos (h.trans hk)]
   ·have hb:(g==k)=false:=beq_eq_false_iff_ne.mpr h;simp only[List.lookup,hb,if_neg (λe:g=f=>h (e.trans hk.symm))]
  ·rw[if_neg hk];by_cases h:g=k
   ·have hb:(g==k)=true:=beq_iff_eq.mpr h;simp only[List.lookup,hb,if_neg (λe:g=f=>hk (h.symm.trans e))]
   ·have hb:(g==k)=false:=beq_eq_false_iff_ne.mpr h;simp only[List.lookup,hb];exact ih
theorem ajP(f:Str)(v:V):∀fs:List (Str×V),f∈(aaT f v fs).map (·.1)/\∀g,g∈fs.map (·.1)->g∈(aaT f v fs).map (·.1)
 |[]=>⟨by simp[aaT],λg h=>by simp at h⟩
 |(k,x)::r=>by
  obtain⟨i1,i2⟩:=ajP f v r;rw[show aaT f v ((k,x)::r)=(if k=f then (k,v)::r else (k,x)::aaT f v r) from rfl];by_cases hk:k=f
  ·rw[if_pos hk];subst hk;exact⟨by simp,λg h=>by simpa using h⟩
  ·rw[if_neg hk];refine⟨?_,λg h=>?_⟩
   ·rw[bG];exact bF _ i1
   ·rw[bG] at h ⊢;rcases aX.mp h with e | e
    ·exact aX.mpr (.inl e)
    ·exact bF _ (i2 g e)
theorem akE(f:Str)(v:V):∀fs:List (Str×V),(aaT f v fs).length<=fs.length+1
 |[]=>by simp[aaT]
 |(k,x)::r=>by
  have ih:=akE f v r;rw[show aaT f v ((k,x)::r)=(if k=f then (k,v)::r else (k,x)::aaT f v r) from rfl];by_cases hk:k=f
  ·rw[if_pos hk,bZ,bZ];omega
  ·rw[if_neg hk,bZ,bZ];omega
theorem RelO.some_of{v:V}{o:Option Value}(r:RelO (some v) o):∃u,o=some u/\RelV v u:=by
 cases o with
 |none=>exact (show False from r).elim
 |some u=>exact⟨u,rfl,r⟩
theorem RelO.none_of{o:Option Value}(r:RelO none o):o=none:=by
 cases o with
 |none=>rfl
 |some u=>exact (show False from r).elim
theorem azO{v:V}{u:Value}(r:RelV v u):PySem.W.handedIn u=true:=by
 cases v with
 |non=>cases (show u=Value.none from r);rfl
 |bl b=>cases (show u=Value.bool b from r);rfl
 |int i=>obtain⟨t,e⟩:=(show ∃t,u=Value.int i t from r);cases e;rfl
 |str x=>obtain⟨t,e⟩:=(show ∃t,u=Value.str x t from r);cases e;rfl
 |byt b=>obtain⟨t,e⟩:=(show ∃t,u=Value.bytes b t from r);cases e;rfl
 |flt b=>obtain⟨t,e⟩:=(show ∃t,u=Value.float b t from r);cases e;rfl
 |ref a=>cases (show u=Value.ref a from r);rfl
 |ty n=>cases (show u=Value.type n from r);rfl
section
variable{P:Program}{w:World}{H H':Hp}{h h':Heap}{a C dx:Addr}{fs fs':List (Str×V)}
theorem arI(hok:HOk P w H h)(e:H a=some (.ins C dx fs)):∃mA,ObjM h a dx C mA/\(∀f,RelO (fs.lookup f) (mA f))/\PySem.Within mA (fs.map (·.1))/\fs.length<=1000/\H dx=some (.own a):=by
 obtain⟨d,z,ne,ob,mA,n,r,q⟩:=(show ObjOk P w H h a (.ins C dx fs) from hok a _ e);exact⟨mA,⟨ob,n,ne⟩,r,q,z,d⟩
end
structure Cls(K:FG)(C:Addr):Prop where
 pg:PySem.W.plainGet K C Str.empty=true
 hd:PySem.W.hasDictIn K C=true
 po:PySem.W.plainOver K C=true
 sa:PySem.W.findIn K (.ref C) "__setattr__"=some (some (.builtin "object.__setattr__"))
theorem Cls.get{K:FG}{C:Addr}(c:Cls K C)(f:Str):PySem.W.plainGet K C f=true:=c.pg
def NoAttr(K:FG)(C:Addr)(f:Str):Prop:=PySem.W.findIn K (.ref C) f=some none
theorem NoAttr.taker{K:FG}{C:Addr}{f:Str}(n:NoAttr K C f):PySem.W.takerIn K C f=some none:=by
 unfold PySem.W.takerIn;rw[show PySem.W.findIn K (.ref C) f=some none from n];rfl
structure Meth(K:FG)(C:Addr)(m:Str)(f:Addr):Prop where
 at_:PySem.W.findIn K (.ref C) m=some (some (.ref f))
 fn:PySem.W.isFn K (.ref f)=true
 kp:PySem.W.keepIn K (.ref f)=true
section
variable{X:Cx}{pins:List (Addr×Obj)}{σ:St}{H:Hp}{s:Shared}{a C dx:Addr}{fs:List (Str×V)}{f:Str}{v:V}{A:Around}{E:Value->Shared->Prop}
theorem au2{b:Bool}{Q:Value->Shared->Prop}(I:Inv X pins σ H s)(e:H a=some (.ins C dx fs))(c:Cls X.K C)(n:NoAttr X.K C f)(l:fs.lookup f=some v)
  (h:∀u s',Inv X pins σ H s'->RelV v u->Q u s'):wpAny (model X.prog X.w) A (getAttr (.ref a) f b) Q E s:=by
 obtain⟨mA,O,r,_,_,_⟩:=arI I.hok e;obtain⟨u,hu,ru⟩:=RelO.some_of (v:=v) (o:=mA f) (by rw[←l];exact r f);exact aF8 I.kIn O (c.get f) c.hd n hu (azO ru) (h u _ (I.tok _) ru)
theorem av8{m:Str}{g:Addr}{pl:Sem Bool}{Q:Value×List Value->Shared->Prop}(I:Inv X pins σ H s)(e:H a=some (.ins C dx fs))(c:Cls X.K C)(k:Meth X.K C m g)(l:fs.lookup m=none)
  (h:Q (.ref g,[.ref a]) s):wpAny (model X.prog X.w) A (getMethod (.ref a) m pl) Q E s:=by
 obtain⟨mA,O,r,_,_,_⟩:=arI I.hok e;have hn:mA m=none:=RelO.none_of (by rw[←l];exact r m);exact aD6 I.kIn O (c.get m) k.at_ k.fn hn h
theorem avY{y:V}{u:Value}{Q:Unit->Shared->Prop}(I:Inv X pins σ H s)(e:H a=some (.ins C dx fs))(c:Cls X.K C)(n:NoAttr X.K C f)(hl:fs.length<1000)(ry:RelV y u)
  (h:∀s',Inv X pins σ (upd H a (.ins C dx (aaT f y fs))) s'->Q () s'):wpAny (model X.prog X.w) A (setAttr (.ref a) f u) Q E s:=by
 obtain⟨mA,O,r,wi,_,ho⟩:=arI I.hok e;have hz:(fs.map (·.1)).length<=sizeLine:=by rw[aR,eU];omega
 refine aEB I.kIn O c.sa c.po n.taker c.hd wi hz λh' O' sb=>h _ ?_;have hd:∃o,h'.get? dx=some o:=let ⟨o,_,_,e',_⟩:=O'.ns;⟨o,e'⟩;refine I.write (x:=a) (e:=dx) (by rw[e];exact True.intro) (.inr ho) (λb q hb z=>(sb.2 b hb).trans z) hd ?_;refine⟨by rw[aaD O.ne];exact ho,?_,O.ne,O'.obj,_,O'.ns,λg=>?_,λg hg=>?_⟩
 ·have:=akE f y fs;omega
 ·show RelO ((aaT f y fs).lookup g) (if g=f then some u else mA g);rw[aaE];by_cases q:g=f
  ·rw[if_pos q,if_pos q];exact ry
  ·rw[if_neg q,if_neg q];exact r g
 ·by_cases q:g=f
  ·rw[q];exact (ajP f y fs).1
  ·refine (ajP f y fs).2 g (wi g λz=>hg ?_);show (if g=f then some u else mA g)=none;rw[if_neg q];exact z
theorem Inv.made(I:Inv X pins σ H s):Inv X pins σ (upd (upd H s.heap.objs.size (.own (s.heap.objs.size+1))) (s.heap.objs.size+1) (.ins C s.heap.objs.size []))
  {s with heap:=(s.heap.push PySem.W.emptyDict).push (PySem.W.instObj C s.heap.objs.size)}:=by
 have e1:(s.heap.push PySem.W.emptyDict).get? s.heap.objs.size=some PySem.W.emptyDict:=a9 s.heap rfl;have e2:((s.heap.push PySem.W.emptyDict).push (PySem.W.instObj C s.heap.objs.size)).get? (s.heap.objs.size+1)=some (PySem.W.instObj C s.heap.objs.size):=by
  have:=a9 (s.heap.push PySem.W.emptyDict) (o:=PySem.W.instObj C s.heap.objs.size) rfl
  rwa [c9] at this
 have e3:(s.heap.push PySem.W.emptyDict).Ns s.heap.objs.size (λ_=>none):=⟨PySem.W.emptyDict,#[],_,e1,rfl,(λe he=>absurd he (by simp)),λ_=>rfl⟩;have I1:=I.laid (a:=s.heap.objs.size) (o:=.own (s.heap.objs.size+1)) (h':=s.heap.push PySem.W.emptyDict) (t':=s.toks) (λb u q=>aU _ q) (aQ _) ⟨_,e1⟩;refine I1.laid (a:=s.heap.objs.size+1) (o:=.ins C s.heap.objs.size []) (t':=s.toks) (λb u q=>aU _ q) (Nat.le_of_eq (c9 _ _)) ?_
 have ne:s.heap.objs.size≠s.heap.objs.size+1:=aW (dD _);refine⟨by rw[aaD ne,aaA],bM _,ne,e2,λ_=>none,(Heap.Ns1.of_empty e3).at λo q=>aU _ q,λ_=>True.intro,λy hy=>absurd rfl hy⟩
theorem aGR{prog:Program}{w:World}{env:Env}{e:Expr}{f:Str}{pos:Pos}{s:Shared}{Q:Value->Shared->Prop}(hb:attributeBase e f env (eval e env)=eval e env)
  (h:wpAny (model prog w) A (eval e env) (λo s₁=>wpAny (model prog w) A (getAttr o f true) Q E s₁) E s):wpAny (model prog w) A (eval (.Attribute e f pos) env) Q E s:=
 Attribute_any_ h (by rw[arm_eval_Attribute,hb])
end
def aH3(K:FG)(ta:TE)(f:Str):TE:=λσ H Q=>ta σ H λx H1=>∃a C dx fs v,x=.ref a/\H1 a=some (.ins C dx fs)/\Cls K C/\NoAttr K C f/\fs.lookup f=some v/\Q v H1
def aR2(K:FG)(ta tv:TE)(f:Str):TS:=λD σ H=>tv σ H λy H1=>ta σ H1 λx H2=>∃a C dx fs,x=.ref a/\H2 a=some (.ins C dx fs)/\Cls K C/\NoAttr K C f/\fs.length<1000/\
 D.nx σ (upd H2 a (.ins C dx (aaT f y fs)))
section
variable{X:Cx}{o e value:Expr}{f:Str}{pos pos' tpos:Pos}{ta tv:TE}
theorem aIZ(he:PE X e ta)(hb:attributeBase e f X.env (eval e X.env)=eval e X.env):PE X (.Attribute e f pos) (aH3 X.K ta f):=by
 intro pins s σ H Q I h;refine aGR hb (thn (he pins s σ H _ I h) λu s1 ⟨x,H1,I1,rx,a,C,dx,fs,v,ex,ea,c,n,l,q⟩=>?_);subst ex;obtain rfl:u=Value.ref a:=rx;exact au2 I1 ea c n l λu' s2 I2 ru=>⟨v,H1,I2,ru,q⟩
theorem aIB(ha:PE X o ta)(hv:PE X value tv)(hs:swapsWith value (some (.Attribute o f pos')) pos.line X.env=pure false):PS X (.Assign [.Attribute o f pos'] value pos) (aR2 X.K ta tv f):=by
 intro pins s σ H D I h;refine plainObj_wpAny_Assign_Attribute (thn (hv pins s σ H _ I h) λu s1 ⟨y,H1,I1,ry,q⟩=>thn (ha pins s1 σ H1 _ I1 q) λov s2 ⟨x,H2,I2,rx,a,C,dx,fs,ex,ea,c,n,l,q2⟩=>?_) hs;subst ex;obtain rfl:ov=Value.ref a:=rx;exact avY I2 ea c n l ry λs3 I3=>⟨σ,_,I3,q2⟩
end
section
variable{X:Cx}{pins:List (Addr×Obj)}{σ:St}{H:Hp}{s:Shared}{A:Around}{E:Value->Shared->Prop}{Q:Value->Shared->Prop}{c:Value}{b:Bool}
inductive TyOf (K:FG) (H:Hp):V->Value->Prop where
 |non:TyOf K H .non (.type "NoneType")
 |bl (x:Bool):TyOf K H (.bl x) (.type "bool")
 |int (i:Int):TyOf K H (.int i) (.type "int")
 |str (x:Str):TyOf K H (.str x) (.type "str")
 |flt (x:UInt64):TyOf K H (.flt x) (.type "float")
 |lst {a:Addr} {xs:List V} (e:H a=some (.lst xs)):TyOf K H (.ref a) (.type "list")
 |frz {a:Addr} {o:Obj} {xs:List V} (e:H a=some (.frz o (.lst xs))):TyOf K H (.ref a) (.type "list")
 |tup {a:Addr} {xs:List V} (e:H a=some (.tup xs)):TyOf K H (.ref a) (.type "tuple")
 |dK {a:Addr} {kvs:List (Key×V)} (e:H a=some (.dK kvs)):TyOf K H (.ref a) (.type "dict")
 |dT {a:Addr} {kvs:List (List Key×V)} (e:H a=some (.dT kvs)):TyOf K H (.ref a) (.type "dict")
 |ins {a C dx:Addr} {fs:List (Str×V)} (e:H a=some (.ins C dx fs)) (cl:Cls K C) (ha:PySem.W.findIn K (.ref C) "__class__"=some (some (.builtin "object.__class__")))
   (hn:PySem.W.specialIn K (.builtin "object.__class__") "__get__"=some (some (.builtin "getset_descriptor.__get__"))) (htk:PySem.W.takesIn K (.builtin "object.__class__")=some true)
   (hm:PySem.W.mroIn K C (.type "object")=some true):TyOf K H (.ref a) (.ref C)
end
structure Room(k:Nat)(A:Around):Prop where
 hd:A.handled=none
 dp:A.depth+3*k+5<recursionLimit
 un:A.units+16*k+200<cLine
theorem Room.mono{j k:Nat}{A:Around}(r:Room k A)(h:j<=k):Room j A:=⟨r.hd,by have:=r.dp;omega,by have:=r.un;omega⟩
theorem Room.deeper{k:Nat}{A:Around}(r:Room (k+1) A)(env:Env):Room k (A.deeper env):=
 ⟨r.hd,by have:=r.dp;show A.depth+1+3*k+5<_;omega,by have:=r.un;show A.units+3+16*k+200<_;omega⟩
theorem avZ{A:Around}{C:Addr}{us:List Value}{kw:List (Str×Value)}:(A.under (.builtin "type.__call__" ⟨.ref C::us,kw⟩)).depth=A.depth+1:=by
 first | rfl | simp[Around.under,Code.weight,Code.isCreation,Code.isGuard,Code.isCaller,Code.frames,Code.isFrame,guardIds]
theorem awJ{A:Around}{C:Addr}{us:List Value}{kw:List (Str×Value)}:(A.under (.builtin "type.__call__" ⟨.ref C::us,kw⟩)).units=A.units+1:=by
 first | rfl | simp[Around.under,Code.cUnits,Code.frames,Code.isFrame]
theorem Room.make{k:Nat}{A:Around}(r:Room (k+1) A)(C:Addr)(us:List Value)(kw:List (Str×Value)):Room k (A.under (.builtin "type.__call__" ⟨.ref C::us,kw⟩)):=
 ⟨r.hd,by have:=r.dp;rw[avZ];omega,by have:=r.un;rw[awJ];omega⟩
theorem Room.depth{k:Nat}{A:Around}(r:Room k A):A.depth<recursionLimit:=by have:=r.dp;omega
theorem Room.units{k:Nat}{A:Around}(r:Room k A):A.units+64<cLine:=by have:=r.un;omega
def aiM:TA:=λ_ H Q=>Q [] H
def acV(ta:TE)(tr:TA):TA:=λσ H Q=>ta σ H λx H1=>tr σ H1 λxs H2=>Q (x::xs) H2
section
variable{X:Cx}{e:Expr}{es:List Expr}{te:TE}{t:TA}{pos:Pos}
theorem afL:PA X [] aiM:=λ_ _ _ _ H Q I h=>Calls.spliced_nil ⟨[],H,I,.nil,h⟩
theorem adN(ha:PE X e te)(hr:PA X es t)(hs:starEach (e::es) X.env=(false,eval e X.env)::starEach es X.env:=by rfl):PA X (e::es) (acV te t):=by
 intro pos pins s σ H Q I h;rw[hs];show wpAny _ _ (spliced ((false,eval e X.env)::backTo pos (starEach es X.env))) _ _ s;refine Calls.spliced_cons (thn (ha pins s σ H _ I h) λu s1 ⟨x,H1,I1,r1,q1⟩=>?_);exact thn (hr pos pins s1 σ H1 _ I1 q1) λus s2 ⟨xs,H2,I2,r2,q2⟩=>⟨x::xs,H2,I2,.cons r1 r2,q2⟩
def aQ8(t:TA):TE:=λσ H Q=>t σ H λxs H1=>xs.length<=sizeLine/\∀p,H1 p=none->Q (.ref p) (upd H1 p (.tup xs))
def aPD(t:TA):TE:=λσ H Q=>t σ H λxs H1=>xs.length<=sizeLine/\∀p,H1 p=none->Q (.ref p) (upd H1 p (.lst xs))
theorem aKN{x1}(h:PA X es t):PE X (.Tuple es x1 pos) (aQ8 t):=by
 intro pins s σ H Q I hq;refine wpAny_Tuple_spliced (thn (h pos pins s σ H _ I hq) λus s1 ⟨xs,H1,I1,r,z,q⟩=>⟨by rw[←r.length];exact z,?_⟩);have hf:H1 s1.heap.objs.size=none:=I1.hok.fresh (aQ _);refine⟨.ref s1.heap.objs.size,upd H1 s1.heap.objs.size (.tup xs),I1.laid (t':=s1.toks) (λb u e=>aU _ e) (aQ _) ?_,rfl,q _ hf⟩;exact⟨z,us,r,⟨_,a9 _ rfl,rfl,()⟩⟩
theorem aJN(h:PA X es t):PE X (.List es pos) (aPD t):=by
 intro pins s σ H Q I hq;refine wpAny_List_spliced (thn (h pos pins s σ H _ I hq) λus s1 ⟨xs,H1,I1,r,z,q⟩=>⟨by rw[←r.length];exact z,?_⟩);have hf:H1 s1.heap.objs.size=none:=I1.hok.fresh (aQ _);refine⟨.ref s1.heap.objs.size,upd H1 s1.heap.objs.size (.lst xs),I1.laid (t':=s1.toks) (λb u e=>aU _ e) (aQ _) ?_,rfl,q _ hf⟩;exact⟨z,us,0,r,a9 _ rfl⟩
end
noncomputable abbrev Sp:=List V->Hp->VK->XK->Prop
noncomputable abbrev CXT:=List Env->Hp->Shared->XK->Value->Shared->Prop
structure Env0(P:Program)(w:World)(K:FG)(mg:Str->Option Value)(base:Heap)(A:Around)(outer:List Env)(s:Shared)(H:Hp):Prop where
 frames:A.frames=some outer
 mod:Mod K mg base
 bs:∀b o,base.get? b=some o->s.heap.get? b=some o/\H b=none
 bsz:base.objs.size<=s.heap.objs.size
 funs:s.heap.FunFrames base outer
 frf:∀b∈frs outer,H b=none
 hok:HOk P w H s.heap
 bare:AllBare s.gens
def CE(outer:List Env)(P:Program)(w:World)(H:Hp)(s:Shared)(Q:VK)(u:Value)(s':Shared):Prop:=
 ∃v H',s'.os=s.os/\AllBare s'.gens/\Un (frs outer) [] H H' s.heap s'.heap/\HOk P w H' s'.heap/\RelV v u/\Q v H'
def CR(CX:CXT)(outer:List Env)(P:Program)(w:World)(H:Hp)(s:Shared)(Q:VK)(E:XK)(r:Result)(s':Shared):Prop:=
 match r with
 |.ok (.ret u)=>CE outer P w H s Q u s'
 |.ok _=>False
 |.error e=>CX outer H s E e s'
structure FnOk(P:Program)(w:World)(K:FG)(mg:Str->Option Value)(base:Heap)(CX:CXT)(k:Nat)(f:Addr)(fd:FuncData)(ps:List Str)(sp:Sp):Prop where
 len:∀vs H Q E,sp vs H Q E->vs.length=ps.length
 run:∀(A:Around) (outer:List Env) (s:Shared) (H:Hp) (args:Args) (us:List Value) (vs:List V) (Q:VK) (E:XK),Room k A->Env0 P w K mg base A outer s H->BindsTo s fd args (ps.zip us)->Vals vs us->sp vs H Q E->
  codeAny (model P w) A (.call (.ref f) args) (CR CX outer P w H s Q E) s
theorem Env0.make{P:Program}{w:World}{K:FG}{mg:Str->Option Value}{base:Heap}{A:Around}{outer:List Env}{s:Shared}{H:Hp}(e:Env0 P w K mg base A outer s H)(C:Addr)(us:List Value)(kw:List (Str×Value)):
  Env0 P w K mg base (A.under (.builtin "type.__call__" ⟨.ref C::us,kw⟩)) outer s H:=⟨by first | exact e.frames | (simpa [Around.under,Code.envs,Code.isFrame,pushEnvs] using e.frames),e.mod,e.bs,e.bsz,e.funs,e.frf,e.hok,e.bare⟩
section
variable{X:Cx}{pins:List (Addr×Obj)}{σ:St}{H:Hp}{s s':Shared}
theorem Inv.env0(I:Inv X pins σ H s):Env0 X.prog X.w X.K X.mg X.base X.A X.stack s H:=
 ⟨I.ok.frames,I.ok.mod,I.bs,bL I.ok.bsz I.sz,I.stack,I.stkFree,I.hok,I.bare⟩
theorem Inv.after{Q:VK}{u:Value}(I:Inv X pins σ H s)(h:CE X.stack X.prog X.w H s Q u s'):EP X pins σ Q u s':=by
 obtain⟨v,H',os,bare,un,hok,r,q⟩:=h;obtain⟨hh,g,d,t,os'⟩:=s';obtain rfl:os'=s.os:=os;exact⟨v,H',I.call (h':=hh) (g':=g) (d':=d) (t':=t) (ch:=[]) un hok bare (λb z=>absurd z (by simp)),r,q⟩
end
def axO(sp:Sp)(dvs:List V)(E:XK)(t:TA):TE:=λσ H Q=>t σ H λvs H1=>sp (vs++dvs) H1 Q E
def aB3(C:Addr)(m:Str)(sp:Sp)(dvs:List V)(E:XK)(ta:TE)(t:TA):TE:=λσ H Q=>ta σ H λx H1=>∃a dx fs,x=.ref a/\H1 a=some (.ins C dx fs)/\fs.lookup m=none/\
 t σ H1 λvs H2=>sp (x::(vs++dvs)) H2 Q E
def ax7(C:Addr)(sp:Sp)(dvs:List V)(E:XK)(t:TA):TE:=λσ H Q=>t σ H λvs H1=>∀x dx,H1 x=none->H1 dx=none->dx≠x->
 sp (.ref x::(vs++dvs)) (upd (upd H1 dx (.own x)) x (.ins C dx [])) (λv H2=>v=.non/\Q (.ref x) H2) E
def Binds(K:FG)(fd:FuncData)(ps:List Str)(ds:List Value):Prop:=
 ∀(s:Shared) (us:List Value),K.In s.heap->(us++ds).length=ps.length->BindsTo s fd ⟨us,[]⟩ (ps.zip (us++ds))
theorem Binds.all{K:FG}{fd:FuncData}{ps:List Str}(h:∀us:List Value,us.length=ps.length->bindArgs fd ⟨us,[]⟩=pure (ps.zip us)):Binds K fd ps []:=λs us _ hl=>by
 rw[cU] at hl ⊢;exact .of_eq (h us hl)
def ahA(CX:CXT)(X:Cx)(E:XK):Prop:=∀(pins:List (Addr×Obj)) (σ:St) (H:Hp) (s:Shared) (e:Value) (s':Shared),Inv X pins σ H s->CX X.stack H s E e s'->X.xe e s'
section
variable{X:Cx}{CX:CXT}{k:Nat}{f C:Addr}{fd:FuncData}{ps:List Str}{sp:Sp}{dvs:List V}{ds:List Value}{E:XK}{x m:Str}{p pos apos:Pos}{e o:Expr}{es:List Expr}{ta:TE}{t:TA}
theorem avS{pins:List (Addr×Obj)}{σ:St}{H:Hp}{s:Shared}{Q:VK}{us:List Value}{vs:List V}(F:FnOk X.prog X.w X.K X.mg X.base CX k f fd ps sp)(hr:Room k X.A)(hb:Binds X.K fd ps ds)(hd:Vals dvs ds)(hx:ahA CX X E)
  (I:Inv X pins σ H s) (r:Vals vs us) (h:sp (vs++dvs) H Q E):wpAny (model X.prog X.w) X.A (call (.ref f) us) (EP X pins σ Q) X.xe s:=by
 have r2:Vals (vs++dvs) (us++ds):=r.append hd;have hl:(us++ds).length=ps.length:=by rw[←r2.length];exact F.len _ _ _ _ h
 refine wpAny_call (eX (F.run X.A X.stack s H ⟨us,[]⟩ (us++ds) (vs++dvs) Q E hr I.env0 (hb s us I.kIn hl) r2 h) λr s' hq=>?_);cases r with
 |error e=>exact hx pins σ H s e s' I hq
 |ok fl=>
  cases fl with
  |ret u=>exact I.after hq
  |next=>exact False.elim hq
  |brk=>exact False.elim hq
  |cont=>exact False.elim hq
theorem aF4(F:FnOk X.prog X.w X.K X.mg X.base CX k f fd ps sp)(hr:Room k X.A)(hg:Gl X x)(hm:X.mg x=some (.ref f))(hk:PySem.W.keepIn X.K (.ref f)=true)(hb:Binds X.K fd ps ds)(hd:Vals dvs ds)(hx:ahA CX X E)
  (ha:PA X (e::es) t) (hdb:(x==("__debug__":Str))=false:=by decide) (he:starEach (e::es) X.env=(false,eval e X.env)::starEach es X.env:=by rfl) (hpl:(backTo pos (starEach es X.env)).any (·.1)=false:=by rfl):
  PE X (.Call (.Name x p) (e::es) [] pos) (axO sp dvs E t):=by
 intro pins s σ H Q I h;refine fE (af7 I hg hm ?_ hdb);refine PySem.W.callWith_K (h₀:=X.base) I.ok.mod.kin hk (thn (ha pos pins s σ H _ I h) λus s1 ⟨vs,H1,I1,r,q⟩=>⟨I1.kIn,?_⟩) he hpl;exact avS F hr hb hd hx I1 r q
theorem aE2{pl:Sem Bool}(he:PE X o ta)(c:Cls X.K C)(hm:Meth X.K C m f)(F:FnOk X.prog X.w X.K X.mg X.base CX k f fd ps sp)(hr:Room k X.A)(hb:Binds X.K fd ps ds)(hd:Vals dvs ds)(hx:ahA CX X E)(ha:PA X (e::es) t)
  (hst:starEach (e::es) X.env=(false,eval e X.env)::starEach es X.env:=by rfl) (hpl:(backTo pos (starEach es X.env)).any (·.1)=false:=by rfl)
  (ht:eval (.Call (.Attribute o m apos) (e::es) [] pos) X.env=(do
   let ov ←eval o X.env
   standAt apos.atName
   let (f,first) ←holding [ov] (getMethod ov m pl)
   callWith pos f first (backTo pos (starEach (e::es) X.env)) (backToKw pos (keywordEach [] X.env))):=by rfl):
  PE X (.Call (.Attribute o m apos) (e::es) [] pos) (aB3 C m sp dvs E ta t):=by
 intro pins s σ H Q I h;refine PySem.W.methodCall_KW (pl:=pl) (thn (he pins s σ H _ I h) λu s1 ⟨x,H1,I1,rx,a,dx,fs,ex,ea,l,q⟩=>?_) ht;subst ex;obtain rfl:u=Value.ref a:=rx;refine av8 I1 ea c hm l ?_;refine PySem.W.callWith_K (first:=[.ref a]) (h₀:=X.base) I.ok.mod.kin hm.kp (thn (ha pos pins s1 σ H1 _ I1 q) λus s2 ⟨vs,H2,I2,r,q2⟩=>⟨I2.kIn,?_⟩) hst hpl;exact avS (us:=.ref a::us) (vs:=.ref a::vs) F hr hb hd hx I2 (.cons rfl r) q2
structure Mk(K:FG)(C f:Addr):Prop where
 makes:PySem.W.makesIn K C=true
 init:PySem.W.findIn K (.ref C) "__init__"=some (some (.ref f))
 fn:PySem.W.isFn K (.ref f)=true
 kp:PySem.W.keepIn K (.ref C)=true
theorem asT{pins:List (Addr×Obj)}{σ:St}{H:Hp}{s:Shared}{Q:VK}{us:List Value}{vs:List V}(M:Mk X.K C f)(F:FnOk X.prog X.w X.K X.mg X.base CX k f fd ps sp)(hr:Room (k+1) X.A)(hb:Binds X.K fd ps ds)(hd:Vals dvs ds)
  (hx:ahA CX X E) (I:Inv X pins σ H s) (r:Vals vs us)
  (h:∀x dx,H x=none->H dx=none->dx≠x->sp (.ref x::(vs++dvs)) (upd (upd H dx (.own x)) x (.ins C dx [])) (λv H2=>v=.non/\Q (.ref x) H2) E):
  wpAny (model X.prog X.w) X.A (call (.ref C) us) (EP X pins σ Q) X.xe s:=by
 have hq:=h (s.heap.objs.size+1) s.heap.objs.size (I.hok.fresh (Nat.le_succ _)) (I.hok.fresh (aQ _)) (aW (dD _));have I2:=Inv.made (C:=C) I;have r2:Vals (V.ref (s.heap.objs.size+1)::(vs++dvs)) (Value.ref (s.heap.objs.size+1)::(us++ds)):=.cons rfl (r.append hd);have hl:(Value.ref (s.heap.objs.size+1)::us++ds).length=ps.length:=by
  have e:=r2.length;rw[F.len _ _ _ _ hq] at e;exact e.symm
 refine wpAny_call (aB5 (f:=f) I.kIn M.makes M.init (beq_iff_eq.mp M.fn) (eX (F.run _ X.stack _ _ ⟨Value.ref (s.heap.objs.size+1)::us,[]⟩ (Value.ref (s.heap.objs.size+1)::(us++ds)) _ _ E (hr.make C us [])
  (I2.env0.make C us []) (hb _ (Value.ref (s.heap.objs.size+1)::us) I2.kIn hl) r2 hq) λr s' hq'=>?_))
 cases r with
 |error e=>exact hx pins σ _ _ e s' I2 hq'
 |ok fl=>
  cases fl with
  |ret u=>
   obtain⟨v,H',I3,rv,ev,q3⟩:=I2.after hq';subst ev;exact⟨rv,⟨V.ref (s.heap.objs.size+1),H',I3,rfl,q3⟩⟩
  |next=>exact False.elim hq'
  |brk=>exact False.elim hq'
  |cont=>exact False.elim hq'
theorem aF3(M:Mk X.K C f)(F:FnOk X.prog X.w X.K X.mg X.base CX k f fd ps sp)(hr:Room (k+1) X.A)(hg:Gl X x)(hm:X.mg x=some (.ref C))(hb:Binds X.K fd ps ds)(hd:Vals dvs ds)(hx:ahA CX X E)
  (ha:PA X (e::es) t) (hdb:(x==("__debug__":Str))=false:=by decide) (he:starEach (e::es) X.env=(false,eval e X.env)::starEach es X.env:=by rfl) (hpl:(backTo pos (starEach es X.env)).any (·.1)=false:=by rfl):
  PE X (.Call (.Name x p) (e::es) [] pos) (ax7 C sp dvs E t):=by
 intro pins s σ H Q I h;refine fE (af7 I hg hm ?_ hdb);refine PySem.W.callWith_K (h₀:=X.base) I.ok.mod.kin M.kp (thn (ha pos pins s σ H _ I h) λus s1 ⟨vs,H1,I1,r,q⟩=>⟨I1.kIn,?_⟩) he hpl;exact asT M F hr hb hd hx I1 r q
theorem aBU(M:Mk X.K C f)(F:FnOk X.prog X.w X.K X.mg X.base CX k f fd ps sp)(hr:Room (k+1) X.A)(hg:Gl X x)(hm:X.mg x=some (.ref C))(hb:Binds X.K fd ps ds)(hd:Vals dvs ds)(hx:ahA CX X E)
  (hdb:(x==("__debug__":Str))=false:=by decide):PE X (.Call (.Name x p) [] [] pos) (ax7 C sp dvs E aiM):=by
 intro pins s σ H Q I h;refine fE (af7 I hg hm ?_ hdb);exact PySem.W.callWith_K0 I.kIn M.kp (asT (us:=[]) M F hr hb hd hx I .nil h)
variable{ks:List Str}{kpos:Pos}{kws:List Keyword}{te:TE}{tk:TA}{nm:Option Str}{g:List Value->List Value->List Value}{gV:List V->List V->List V}
end
structure FnScope(N P:List Str)(sc:Scope):Prop where
 kind:sc.kind=.function
 co:sc.isCoroutine=false
 gen:sc.isGenerator=false
 nd:N.Nodup
 pre:N.take P.length=P
 par:∀x∈P,sc.names.lookup x=some .local∨sc.names.lookup x=some .cell
 nofree:∀y∈sc.names,y.2≠ .free
theorem apC{kindOf:Str->Option NameKind}{x:Str}:∀{binds:List (Str×Value)} {m:Str->Option Value},(∀v,(x,v)∉binds)->bindL kindOf binds m x=m x
 |[],_,_=>rfl
 |(n,v)::r,m,h=>by
  unfold bindL;rw[apC λw hw=>h w (bF _ hw)];split
  ·have:x≠n:=by rintro rfl;exact h v bE
   simp[this]
  ·rfl
theorem aoG{kindOf:Str->Option NameKind}{x:Str}:∀{binds:List (Str×Value)} {m:Str->Option Value},(∀v,(x,v)∉binds)->bindC kindOf binds m x=m x
 |[],_,_=>rfl
 |(n,v)::r,m,h=>by
  unfold bindC;rw[aoG λw hw=>h w (bF _ hw)];split
  ·rfl
  ·have:x≠n:=by rintro rfl;exact h v bE
   simp[this]
theorem ao7{kindOf:Str->Option NameKind}{x:Str}{v:Value}:∀{P:List Str} {vs:List Value} {i:Nat} {m:Str->Option Value},P.Nodup->P[i]? =some x->vs[i]? =some v->kindOf x=some .local->
  bindL kindOf (P.zip vs) m x=some v
 |[],_,_,_,_,h,_,_=>by simp at h
 |_::_,[],_,_,_,_,h,_=>by simp at h
 |p::P,w::vs,0,m,nd,h1,h2,hk=>by
  simp at h1 h2;subst h1;subst h2;show bindL kindOf ((p,w)::P.zip vs) m p=_;unfold bindL;rw[apC λv hv=>(List.nodup_cons.mp nd).1 (List.of_mem_zip hv).1,if_pos hk];simp
 |p::P,w::vs,i+1,m,nd,h1,h2,hk=>by
  show bindL kindOf ((p,w)::P.zip vs) m x=_;unfold bindL;exact ao7 (i:=i) (List.nodup_cons.mp nd).2 (by simpa using h1) (by simpa using h2) hk
theorem aoZ{kindOf:Str->Option NameKind}{x:Str}{v:Value}:∀{P:List Str} {vs:List Value} {i:Nat} {m:Str->Option Value},P.Nodup->P[i]? =some x->vs[i]? =some v->kindOf x≠some .local->
  bindC kindOf (P.zip vs) m x=some v
 |[],_,_,_,_,h,_,_=>by simp at h
 |_::_,[],_,_,_,_,h,_=>by simp at h
 |p::P,w::vs,0,m,nd,h1,h2,hk=>by
  simp at h1 h2;subst h1;subst h2;show bindC kindOf ((p,w)::P.zip vs) m p=_;unfold bindC;rw[aoG λv hv=>(List.nodup_cons.mp nd).1 (List.of_mem_zip hv).1,if_neg hk];simp
 |p::P,w::vs,i+1,m,nd,h1,h2,hk=>by
  show bindC kindOf ((p,w)::P.zip vs) m x=_;unfold bindC;exact aoZ (i:=i) (List.nodup_cons.mp nd).2 (by simpa using h1) (by simpa using h2) hk
noncomputable def start(N:List Str)(vs:List V):St:=vs.map some++List.replicate (N.length-vs.length) none
noncomputable def asC(CX:CXT)(P:Program)(w:World)(K:FG)(mg:Str->Option Value)(base:Heap)(N:List Str)(qual:Str)(scope:Scope)(f:Addr)(cd:Value)(A:Around)(outer:List Env)(s:Shared)(H:Hp)(E:XK):Cx where
 prog:=P
 w:=w
 K:=K
 mg:=mg
 base:=base
 A:=A.deeper (envOfC qual scope s.heap.objs.size f cd)
 N:=N
 s₀:=s
 H₀:=H
 env:=envOfC qual scope s.heap.objs.size f cd
 outer:=outer
 stack:=envOfC qual scope s.heap.objs.size f cd::outer
 ex:=[]
 calm:=true
 fn:=λ_=>true
 pn:=[]
 xe:=λe s'=>wpAny (model P w) (A.deeper (envOfC qual scope s.heap.objs.size f cd)) (leaving (envOfC qual scope s.heap.objs.size f cd) e) (λ_ s''=>CX outer H s E e s'') (λe' s''=>CX outer H s E e' s'') s'
theorem atJ{sc:Scope}{n:Nat}{x:Str}(h:sc.names.lookup x=some .cell):∃c,(cellsFrom n sc.names []).lookup x=some c:=by
 have q:=PySem.W.cellsFrom_some sc.names n [] (.inl h);exact dP.mp q
theorem ayX{CX:CXT}{P:Program}{w:World}{K:FG}{mg:Str->Option Value}{base:Heap}{N ps:List Str}{qual:Str}{scope:Scope}{f:Addr}{cd:Value}{A:Around}{outer:List Env}{s s1:Shared}{H:Hp}{E:XK}{us:List Value}{vs:List V}
  (S:FnScope N ps scope) (hd:A.handled=none) (e0:Env0 P w K mg base A outer s H) (hl:vs.length=ps.length) (r:Vals vs us)
  (x:InCallC s s.heap.objs.size (bindL (envOfC qual scope s.heap.objs.size f cd).kindOf (ps.zip us) λ_=>none) (cellsFrom (s.heap.objs.size+1) scope.names []) (bindC (envOfC qual scope s.heap.objs.size f cd).kindOf (ps.zip us) λ_=>none) s1):
  Inv (asC CX P w K mg base N qual scope f cd A outer s H E) [] (start N vs) H s1:=by
 have hpl:ps.length<=N.length:=by have:=congrArg List.length S.pre;rw[dE] at this;omega
 obtain⟨h1,tk,rfl,hk⟩:=x.done;have noA:∀b:Addr,b∉(asC CX P w K mg base N qual scope f cd A outer s H E).ex:=λb z=>absurd (show b∈([]:List Addr) from z) (by simp);refine⟨⟨e0.mod,S.kind,rfl,rfl,aQ _,λy z c h1 h2=>?_,λy hy=>?_,λy c _ h=>?_,λ_=>hd,Around.frames_deeper e0.frames,.inr ⟨rfl,rfl⟩,λb z=>absurd z (noA b),e0.bs,e0.bsz,λb _ _=>noA b,λb z=>absurd z (noA b),e0.funs,e0.frf⟩,
  rfl,e0.bare,Un.kept hk,⟨_,x.toInCall.ns,λi y v h1 h2 h3=>?_⟩,λy c h=>⟨_,x.cell y c h⟩,e0.hok.fresh (aQ _),λy c h=>?_,λp hp=>absurd (show p∈([]:List (Addr×Obj)) from hp) (by simp),e0.hok.kept hk,?_⟩
 ·exact name_of_addr x.apart (PySem.mem_of_lookup h1) (PySem.mem_of_lookup h2)
 ·have hy:scope.names.lookup y=some .cell∨scope.names.lookup y=some .free:=hy;rcases hy with hy | hy
  ·exact atJ hy
  ·exact absurd rfl (S.nofree _ (PySem.mem_of_lookup hy))
 ·exact Nat.le_of_lt (x.above y c (PySem.mem_of_lookup h))
 ·have hi:i<vs.length:=by
   unfold start at h2;by_cases hi:i<vs.length
   ·exact hi
   ·rw[List.getElem?_append_right (by simpa using hi)] at h2;rw[List.getElem?_replicate] at h2;split at h2<;>cases h2
  have ha:vs[i]? =some v:=by
   unfold start at h2;rw[List.getElem?_append_left (by simpa using hi),bC] at h2;cases e:vs[i]? with
   |none=>rw[e] at h2;cases h2
   |some a=>rw[e] at h2;cases h2;rfl
  obtain⟨u,hu,rv⟩:=r.get ha;have hp:ps[i]? =some y:=by
   rw[←S.pre,List.getElem?_take_of_lt ⋯];exact h1
  have ndP:ps.Nodup:=by rw[←S.pre];exact S.nd.sublist (List.take_sublist _ _)
  refine⟨u,rv,?_⟩;rcases S.par y (bU hp) with k | k
  ·exact .inl ⟨k,ao7 ndP hp hu k⟩
  ·obtain⟨c,e⟩:=atJ (n:=s.heap.objs.size+1) k;refine .inr ⟨.inl k,c,e,?_⟩;have q:=x.cell y c e;rw[aoZ ndP hp hu (by show scope.names.lookup y≠_;rw[k];decide)] at q;exact q
 ·exact e0.hok.fresh (Nat.le_of_lt (x.above y c (PySem.mem_of_lookup h)))
 ·unfold start;show _=N.length;rw[aY,aR,dQ];omega
theorem aC5{CX:CXT}{P:Program}{w:World}{K:FG}{mg:Str->Option Value}{base:Heap}{k:Nat}{f:Addr}{name qual:Str}{params:Arguments}{body:List Stmt}{scope:Scope}{dV kV doc pm cdv ct oc:Value}{an od:Option Addr}
  {osl:Array (Option Value)} {N ps:List Str} {sp:Sp} (lk:K.lookup f=some ⟨oc,od,.func (PySem.W.fnOf name qual params body scope dV kV doc pm an cdv ct),osl⟩) (hcd:PySem.W.codeIn K cdv qual=true) (S:FnScope N ps scope)
  (len:∀vs H Q E,sp vs H Q E->vs.length=ps.length)
  (hbody:∀(A:Around) (outer:List Env) (s:Shared) (H:Hp) (vs:List V) (Q:VK) (E:XK),Room k (A.deeper (envOfC qual scope s.heap.objs.size f cdv))->sp vs H Q E->
   ∃t,PSs (asC CX P w K mg base N qual scope f cdv A outer s H E) body t/\t {nx:=λ_ H'=>Q .non H',rt:=Q} (start N vs) H):
  FnOk P w K mg base CX (k+1) f (PySem.W.fnOf name qual params body scope dV kV doc pm an cdv ct) ps sp:=by
 refine⟨len,λA outer s H args us vs Q E hr e0 hb r hsp=>?_⟩;have hl:=len _ _ _ _ hsp;have KX:K.In s.heap:=e0.mod.kin.keeps λb o e=>(e0.bs b o e).1;have lim:s.heap.NoLimit:=e0.mod.nolimit.keeps λb o e=>(e0.bs b o e).1;have hkind:∀y∈ps.zip us,scope.names.lookup y.1=some .local∨(scope.names.lookup y.1=some .cell/\((cellsFrom (s.heap.objs.size+1) scope.names []).lookup y.1).isSome=true):=λ⟨n,v⟩ hy=>by
  rcases S.par n (List.of_mem_zip hy).1 with q | q
  ·exact .inl q
  ·exact .inr ⟨q,PySem.W.cellsFrom_some _ _ _ (.inl q)⟩
 refine codeAny_call_function hr.depth (KX _ _ lk) rfl S.co S.gen rfl (PySem.W.codeRec_of KX hcd) (hb _ _ _ _ ?_);refine wpAny_newFunctionEnv_cells S.kind hkind λenv he s1 x=>?_;subst he;refine⟨lim.keeps x.toInCall.keep,codeAny_func ?_⟩;obtain⟨t,ht,hq⟩:=hbody A outer s H vs Q E (hr.deeper _) hsp;have I:Inv (asC CX P w K mg base N qual scope f cdv A outer s H E) [] (start N vs) H s1:=ayX S hr.hd e0 hl r x
 refine eQ (ht [] s1 (start N vs) H _ I hq) (λfl s' hs=>?_) λe s' hs=>hs;have fin:∀{σ':St} {H':Hp} {v:V} {u:Value},Inv (asC CX P w K mg base N qual scope f cdv A outer s H E) [] σ' H' s'->RelV v u->Q v H'->CE outer P w H s Q u s':=
  λ{σ' H' v u} J rv q=>⟨v,H',J.os,J.bare,J.base,J.hok,rv,q⟩
 cases fl with
 |ret u=>
  obtain⟨v,σ',H',J,rv,q⟩:=hs;exact fin J rv q
 |next=>
  obtain⟨σ',H',J,q⟩:=hs;exact fin (v:=V.non) (u:=Value.none) J rfl q
 |brk=>
  obtain⟨_,_,_,q⟩:=hs;exact False.elim q
 |cont=>
  obtain⟨_,_,_,q⟩:=hs;exact False.elim q
section
variable{X:Cx}{x:Str}{p pos:Pos}{e:Expr}{es:List Expr}{t:TA}{id T:String}{r:List V->Hp->VK->Prop}
def tCB(r:List V->Hp->VK->Prop)(t:TA):TE:=λσ H Q=>t σ H λvs H1=>r vs H1 Q
theorem aCT(hc:ad0 X (.builtin id) r)(hg:Gl X x)(hm:X.mg x=none)(hv:bootBuiltins x=some (.builtin id))(ha:PA X (e::es) t)(hn:x≠"__name__":=by decide)(hdb:(x==("__debug__":Str))=false:=by decide)
  (he:starEach (e::es) X.env=(false,eval e X.env)::starEach es X.env:=by rfl) (hpl:(backTo pos (starEach es X.env)).any (·.1)=false:=by rfl):PE X (.Call (.Name x p) (e::es) [] pos) (tCB r t):=by
 intro pins s σ H Q I h;refine fE (ahB I hg hm hv ?_ hn hdb);exact PyProof.Rows.callWith_builtin1 (thn (ha pos pins s σ H _ I h) λus s1 ⟨vs,H1,I1,r1,q1⟩=>hc pins s1 σ H1 vs us Q I1 r1 q1) he hpl
theorem azL(hc:ad0 X (.type T) r)(hg:Gl X x)(hm:X.mg x=none)(hv:bootBuiltins x=some (.type T))(ha:PA X (e::es) t)(hn:x≠"__name__":=by decide)(hdb:(x==("__debug__":Str))=false:=by decide)
  (he:starEach (e::es) X.env=(false,eval e X.env)::starEach es X.env:=by rfl) (hpl:(backTo pos (starEach es X.env)).any (·.1)=false:=by rfl):PE X (.Call (.Name x p) (e::es) [] pos) (tCB r t):=by
 intro pins s σ H Q I h;refine fE (ahB I hg hm hv ?_ hn hdb);exact PyProof.Rows.callWith_type1 (thn (ha pos pins s σ H _ I h) λus s1 ⟨vs,H1,I1,r1,q1⟩=>hc pins s1 σ H1 vs us Q I1 r1 q1) he hpl
end
end L2
namespace HT
open PySem PyProof.Rows
section
open PySem.SeqAt
open PySem.AutoSeq1 (wpAny_loadPart')
open PySem.MeetsSeq PySem.MeetsSeq2 PySem.MeetsSeq3
variable{prog:Program}{w:World}{A:Around}{E:Value->Shared->Prop}{s:Shared}
noncomputable def sIx(n d:Nat):Option Int->Nat
 |none=>d
 |some v=>if v<0 then (v+(n:Int)).toNat else min v.toNat n
theorem sIx_nat(n d k:Nat):sIx n d (some (k:Int))=min k n:=by
 show (if (k:Int)<0 then ((k:Int)+(n:Int)).toNat else min (k:Int).toNat n)=min k n;rw[if_neg ⋯,Int.toNat_natCast]
theorem sIx_le(n d:Nat)(hd:d<=n)(o:Option Int):sIx n d o<=n:=by
 cases o with
 |none=>exact hd
 |some v=>
  show (if v<0 then (v+(n:Int)).toNat else min v.toNat n)<=n;by_cases hv:v<0
  ·rw[if_pos hv];omega
  ·rw[if_neg hv];exact Nat.min_le_right _ _
end
end HT
namespace L2
open PySem PySem.Spec PyProof.Rows
noncomputable abbrev TO:=St->Hp->(Option Int->Hp->Prop)->Prop
def PO(X:Cx)(e:Option Expr)(t:TO):Prop:=
 ∀(pins:List (Addr×Obj)) (s:Shared) (σ:St) (H:Hp) (Q:Option Int->Hp->Prop),Inv X pins σ H s->t σ H Q->
  wpAny (model X.prog X.w) X.A (evalPart e X.env) (λu s'=>∃o H',Inv X pins σ H' s'/\IsPart u o/\Q o H') X.xe s
def aw2:TO:=λ_ H Q=>Q none H
def aHB(t:TE):TO:=λσ H Q=>t σ H λx H1=>∃i,x=.int i/\Q (some i) H1
section
variable{X:Cx}{e:Expr}{te:TE}{lo hi:Option Expr}{tl th:TO}{pos p2:Pos}
theorem aEU:PO X none aw2:=by
 intro pins s σ H Q I h;rw[evalPart_none];exact fF ⟨none,H,I,.none,h⟩
theorem aEK(h:PE X e te):PO X (some e) (aHB te):=by
 intro pins s σ H Q I hw;rw[evalPart_some];refine thn (h pins s σ H _ I hw) λu s1 ⟨x,H1,I1,r1,q1⟩=>?_;obtain⟨i,rfl,q⟩:=q1;obtain⟨t,rfl⟩:=r1;exact⟨some i,H1,I1,.int i t,q⟩
def SlR(X:Cx)(r:V->Option Int->Option Int->Hp->VK->Prop):Prop:=
 ∀(pins:List (Addr×Obj)) (s:Shared) (σ:St) (H:Hp) (x:V) (v vl vu:Value) (lo hi:Option Int) (sl:Addr) (Q:VK),Inv X pins σ H s->RelV x v->s.heap.IsSliceOf sl vl vu .none->IsPart vl lo->IsPart vu hi->r x lo hi H Q->
  ∃T id,typeLookup (.type T) "__getitem__"=pure (some (.builtin id))/\s.TypeIs v T/\wpAny (model X.prog X.w) X.A (getItem v (.ref sl)) (EP X pins σ Q) X.xe s
def tSl(r:V->Option Int->Option Int->Hp->VK->Prop)(te:TE)(tl th:TO):TE:=λσ H Q=>te σ H λx H1=>tl σ H1 λl H2=>th σ H2 λu H3=>r x l u H3 Q
theorem aAL{r:V->Option Int->Option Int->Hp->VK->Prop}(hr:SlR X r)(he:PE X e te)(hl:PO X lo tl)(hu:PO X hi th):PE X (.Subscript e (.Slice lo hi none p2) pos) (tSl r te tl th):=by
 intro pins s σ H Q I h;refine Subscript_ (thn (he pins s σ H _ I h) λv s1 ⟨x,H1,I1,r1,q1⟩=>?_);refine wpAny_Slice (thn (hl pins s1 σ H1 _ I1 q1) λvl s2 ⟨l,H2,I2,pl,q2⟩=>thn (hu pins s2 σ H2 _ I2 q2) λvu s3 ⟨u,H3,I3,pu,q3⟩=>?_);rw[evalPart_none];refine fF ?_;have I4:Inv X pins σ H3 {s3 with heap:=s3.heap.push {cls:=.type "slice",data:=.fields #[vl,vu,.none]} }:=I3.kept (t':=s3.toks) λb ob q=>aU _ q
 obtain⟨T,id,hT,ht,hg⟩:=hr pins {s3 with heap:=s3.heap.push {cls:=.type "slice",data:=.fields #[vl,vu,.none]} } σ H3 x v vl vu l u s3.heap.objs.size Q I4 r1 (Heap.IsSliceOf.new ..) pl pu q3;show wpAny (model X.prog X.w) X.A (subscriptTail e (.Slice lo hi none p2) v (.ref s3.heap.objs.size)) (EP X pins σ Q) X.xe {s3 with heap:=s3.heap.push {cls:=.type "slice",data:=.fields #[vl,vu,.none]} };exact tail_any (ops:=[.ref s3.heap.objs.size,v]) ht hT hg (by with_unfolding_all rfl)
noncomputable def ai7(xs:List V)(lo hi:Option Int):List V:=(xs.drop (HT.sIx xs.length 0 lo)).take (HT.sIx xs.length xs.length hi-HT.sIx xs.length 0 lo)
theorem asP(xs:List V)(lo hi:Option Int):(ai7 xs lo hi).length<=xs.length:=by
 unfold ai7;rw[dE,dH];omega
end
noncomputable def ixN(n:Nat)(i:Int):Option Nat:=if 0<=i then (if i<n then some i.toNat else none) else if -(n:Int)<=i then some (i+n).toNat else none
noncomputable def atI{α:Type}(xs:List α)(i:Int):Option α:=(ixN xs.length i).bind λj=>xs[j]?
theorem axW{n:Nat}{i:Int}{j:Nat}(h:ixN n i=some j):seqIndex? i n=some j/\j<n/\ -(n:Int)<=i/\i<n:=by
 unfold ixN at h;by_cases h0:0<=i
 ·rw[if_pos h0] at h;by_cases h1:i<n
  ·rw[if_pos h1] at h;have e:i.toNat=j:=aZ h;exact⟨by rw[seqIndex_of h0 h1,e],⋯,⋯,h1⟩
  ·rw[if_neg h1] at h;cases h
 ·rw[if_neg h0] at h;by_cases h1: -(n:Int)<=i
  ·rw[if_pos h1] at h;have e:(i+n).toNat=j:=aZ h;exact⟨by rw[seqIndex_neg ⋯ h1,e],⋯,h1,⋯⟩
  ·rw[if_neg h1] at h;cases h
theorem apX{α:Type}{xs:List α}{i:Int}{v:α}(h:atI xs i=some v):∃j,seqIndex? i xs.length=some j/\xs[j]? =some v/\j<xs.length/\ -(xs.length:Int)<=i/\i<xs.length:=by
 unfold atI at h;cases e:ixN xs.length i with
 |none=>rw[e] at h;cases h
 |some j=>
  rw[e] at h;obtain⟨h1,h2,h3,h4⟩:=axW e;exact⟨j,h1,h,h2,h3,h4⟩
theorem ahQ{α:Type}{xs:List α}{j:Nat}{v:α}(h:xs[j]? =some v):atI xs (j:Int)=some v:=by
 have hj:j<xs.length:=(cC.mp h).1;have e:ixN xs.length (j:Int)=some j:=by
  unfold ixN;rw[if_pos ⋯,if_pos ⋯];simp
 unfold atI;rw[e];exact h
theorem aDR{α:Type}(xs:List α)(v:α):atI (xs++[v]) (-1)=some v:=by
 have hl:(xs++[v]).length=xs.length+1:=by simp
 have e:ixN (xs++[v]).length (-1)=some xs.length:=by
  unfold ixN;rw[hl,if_neg (by decide),if_pos ⋯];congr 1;omega
 unfold atI;rw[e];show (xs++[v])[xs.length]? =some v;simp
def axN(b:Expr):Prop:=∀o i,subscripted b false o i=operate [o,i] (getItem o i)
def IxR(X:Cx)(r:R2):Prop:=
 ∀(value slice:Expr) (pins:List (Addr×Obj)) (s:Shared) (σ:St) (H:Hp) (x y:V) (v u:Value) (Q:VK),Inv X pins σ H s->RelV x v->RelV y u->r x y H Q->
  subscripted slice false v u=operate [v,u] (getItem v u)->wpAny (model X.prog X.w) X.A (subscriptTail value slice v u) (EP X pins σ Q) X.xe s
def MtR(X:Cx)(id:String)(r:V->List V->Hp->VK->Prop):Prop:=
 ∀(pins:List (Addr×Obj)) (s:Shared) (σ:St) (H:Hp) (x:V) (xs:List V) (v:Value) (us:List Value) (Q:VK),Inv X pins σ H s->RelV x v->Vals xs us->r x xs H Q->
  wpAny (model X.prog X.w) X.A (call (.builtin id) (v::us)) (EP X pins σ Q) X.xe s
section
variable{X:Cx}{a b:Expr}{ta tb:TE}{pos:Pos}
theorem aR7{r:R2}(hr:IxR X r)(ha:PE X a ta)(hb:PE X b tb)(hs:axN b):PE X (.Subscript a b pos) (tOp r ta tb):=by
 intro pins s σ H Q I h;exact Subscript_ (aH9 ha hb I h λv u s2 x y H2 I2 rx ry q=>hr a b pins s2 σ H2 x y v u Q I2 rx ry q (hs _ _))
def aKY(K:FG):R2:=λx y H Q=>∃p xs i v,x=.ref p/\y=.int i/\SqL K H p xs/\atI xs i=some v/\Q v H
def aJI(K:FG):R2:=λx y H Q=>∃p xs i v,x=.ref p/\y=.int i/\SqT K H p xs/\atI xs i=some v/\Q v H
def rIxS:R2:=λx y H Q=>∃z i c,x=.str z/\y=.int i/\z.length<=sizeLine/\atI z.cps.toList i=some c/\Q (.str ⟨#[c]⟩) H
theorem aFL:IxR X (aKY X.K):=by
 intro value slice pins s σ H x y v u Q I rx ry h hs;obtain⟨p,xs,i,z,rfl,rfl,hq,he,q⟩:=h;cases rx;obtain⟨t,rfl⟩:=ry;obtain⟨its,r,pl,hz⟩:=I.list hq;obtain⟨j,h1,h2,h3,h4,h5⟩:=apX he;obtain⟨w,ew,rw'⟩:=r.get h2;have hl:=r.length;have hn:=ajG;have fin:EP X pins σ Q w s:=⟨z,H,I,rw',q⟩;by_cases h0:0<=i
 ·have hj:i.toNat=j:=by
   rw[seqIndex_of h0 h5] at h1;exact aZ h1
  exact item_listR pl.isList h0 ⋯ (by rw[hj];simpa using ew) fin hs
 ·have hj:(i+(its.toArray.size:Int)).toNat=j:=by
   rw[seqIndex_neg ⋯ h4] at h1;rw[bI,←hl];exact aZ h1
  exact subscriptTail_builtinR (x:=w) pl.isList.typeIs slot_list_getitem.lookup
   (wpAny_getItem_list_neg (Q:=λr s'=>r=w/\EP X pins σ Q r s') pl.isList ⋯ (by rw[bI]<;>omega) ⋯ (by rw[hj];simpa using ew) ⟨rfl,fin⟩) hs
theorem aJ2:IxR X (aJI X.K):=by
 intro value slice pins s σ H x y v u Q I rx ry h hs;obtain⟨p,xs,i,z,rfl,rfl,hq,he,q⟩:=h;cases rx;obtain⟨t,rfl⟩:=ry;obtain⟨its,r,pl,hz⟩:=I.tuple hq;obtain⟨j,h1,h2,h3,h4,h5⟩:=apX he;obtain⟨w,ew,rw'⟩:=r.get h2;have hl:=r.length;have hn:=ajG;have fin:EP X pins σ Q w s:=⟨z,H,I,rw',q⟩;exact subscriptTail_builtinR (x:=w) pl.typeIs slot_tuple_getitem.lookup
  (getItem_tuple (j:=j) (Q:=λr s'=>r=w/\EP X pins σ Q r s') pl ⋯ ⋯ (by rw[bI,←hl];exact h1) (by simpa using ew) ⟨rfl,fin⟩) hs
theorem aKZ:IxR X rIxS:=by
 intro value slice pins s σ H x y v u Q I rx ry h hs;obtain⟨z,i,c,rfl,rfl,hz,he,q⟩:=h;obtain⟨t,rfl⟩:=rx;obtain⟨t',rfl⟩:=ry;obtain⟨j,h1,h2,h3,h4,h5⟩:=apX he;have hl:z.cps.toList.length=z.length:=by simp[Str.length]
 rw[hl] at h1 h4 h5;have hn:=ajG;exact tail_any (typeIs_str s z t) slot_str_getitem.lookup (getItem_str (c:=c) (by
  have e1:decide (i< -(2^63:Int))=false:=fC ⋯;have e2:decide (i ≥ 2^63)=false:=fC ⋯;rw[e1,e2,Bool.or_false]) (by rw[h1];simpa using h2) ⟨.str ⟨#[c]⟩,H,I.tok _,⟨()⟩,q⟩) hs
theorem au8(its:List Value)(n j:Nat)(u:Value):Obj.mapSeq (·.setIfInBounds j u) {cls:=.type "list",data:=.seq its.toArray n}={cls:=.type "list",data:=.seq (its.set j u).toArray n}:=by
 simp[Obj.mapSeq]
theorem Inv.lst{pins:List (Addr×Obj)}{σ:St}{H:Hp}{s:Shared}{p:Addr}{xs:List V}(I:Inv X pins σ H s)(h:H p=some (.lst xs)):
  ∃(its:List Value) (n:Nat),Vals xs its/\s.heap.get? p=some {cls:=.type "list",data:=.seq its.toArray n}/\xs.length<=sizeLine:=by
 obtain⟨z,its,n,r,e⟩:=I.hok p _ h;exact⟨its,n,r,e,z⟩
theorem Inv.lstUpd{pins:List (Addr×Obj)}{σ:St}{H:Hp}{s:Shared}{p:Addr}{xs ys:List V}{its its':List Value}{n n':Nat}{f:Obj->Obj}(I:Inv X pins σ H s)(h:H p=some (.lst xs))
  (ho:s.heap.get? p=some {cls:=.type "list",data:=.seq its.toArray n}) (hf:f {cls:=.type "list",data:=.seq its.toArray n}={cls:=.type "list",data:=.seq its'.toArray n'}) (r:Vals ys its') (hz:ys.length<=sizeLine) (t:Nat):
  Inv X pins σ (upd H p (.lst ys)) {s with heap:=s.heap.update p f,toks:=t}:=by
 have e:(s.heap.update p f).get? p=some {cls:=.type "list",data:=.seq its'.toArray n'}:=by
  rw[cV f ho (by rw[hf]<;>rfl),hf]
 refine I.write (x:=p) (e:=p) (by rw[h];trivial) (.inl rfl) (λb u hb q=>(cE _ _ (Ne.symm hb)).trans q) ⟨_,e⟩ ?_;exact⟨hz,its',n',r,e⟩
def aG8:V->V->V->Hp->(Hp->Prop)->Prop:=λo i v H Q=>∃p xs k j,o=.ref p/\i=.int k/\H p=some (.lst xs)/\ixN xs.length k=some j/\Q (upd H p (.lst (xs.set j v)))
theorem aAW:aTO X aG8:=by
 intro pins s σ H o i v ov iv u Q I ro ri rv h;obtain⟨p,xs,k,j,rfl,rfl,hp,hj,q⟩:=h;cases ro;obtain⟨t,rfl⟩:=ri;obtain⟨its,n,r,ho,hz⟩:=I.lst hp;obtain⟨h1,h2,h3,h4⟩:=axW hj;have hl:=r.length;have hn:=ajG;have I':Inv X pins σ (upd H p (.lst (xs.set j v))) {s with heap:=s.heap.update p (Obj.mapSeq (·.setIfInBounds j u))}:=
  I.lstUpd hp ho (au8 its n j u) (r.set rv j) (by rw[List.length_set];exact hz) s.toks
 by_cases h0:0<=k
 ·have hk:k.toNat=j:=by
   rw[seqIndex_of h0 h4] at h1;exact aZ h1
  exact PySem.W.ki_setAt ho h0 ⋯ (by rw[bI,←hl];exact h4) (by rw[hk];exact⟨_,I',q⟩)
 ·have hk:(k+(its.toArray.size:Int)).toNat=j:=by
   rw[seqIndex_neg ⋯ h3] at h1;rw[bI,←hl];exact aZ h1
  exact PySem.W.ki_setBack ho ⋯ (by rw[bI,←hl];exact h3) ⋯ (by rw[hk];exact⟨_,I',q⟩)
theorem aqC(lo hi:Option Int)(n:Nat):(sliceBounds lo hi none n).1=((HT.sIx n 0 lo:Nat):Int)/\(sliceBounds lo hi none n).2.1=((HT.sIx n n hi:Nat):Int)/\(sliceBounds lo hi none n).2.2=1:=by
 refine⟨?_,?_,rfl⟩
 ·cases lo with
  |none=>simp[sliceBounds,HT.sIx]
  |some i=>
   simp only[sliceBounds,HT.sIx,Option.getD_none,show (1:Int)>0 by decide,if_true];by_cases h:i<0
   ·simp only[h,if_true]<;>omega
   ·simp only[h,if_false]<;>omega
 ·cases hi with
  |none=>simp[sliceBounds,HT.sIx]
  |some i=>
   simp only[sliceBounds,HT.sIx,Option.getD_none,show (1:Int)>0 by decide,if_true];by_cases h:i<0
   ·simp only[h,if_true]<;>omega
   ·simp only[h,if_false]<;>omega
theorem aoA(its:List Value)(lo hi:Option Int):slicePick its.toArray lo hi none=((its.drop (HT.sIx its.length 0 lo)).take (HT.sIx its.length its.length hi-HT.sIx its.length 0 lo)).toArray:=by
 obtain⟨h1,h2,h3⟩:=aqC lo hi its.toArray.size;unfold slicePick;rw[h1,h2,h3];simp only[sliceRange_one,pick_run,bI]<;>rfl
def aKI(K:FG):V->Option Int->Option Int->Hp->VK->Prop:=λx lo hi H Q=>∃a xs,x=.ref a/\SqL K H a xs/\∀p,H p=none->Q (.ref p) (upd H p (.lst (ai7 xs lo hi)))
theorem aFQ:SlR X (aKI X.K):=by
 intro pins s σ H x v vl vu lo hi sl Q I rx hs pl pu h;obtain⟨a,xs,rfl,hx,q⟩:=h;cases rx;obtain⟨its,r,ht,hz⟩:=I.list hx;have hlen:=r.length;refine⟨"list",_,slot_list_getitem.lookup,ht.isList.typeIs,?_⟩;refine wpAny_getItem_list_slice ht.isList hs pl pu .none (by simp) ?_ (by rw[bI]<;>omega);rw[aoA,←hlen];refine⟨.ref s.heap.objs.size,_,I.laid (t':=s.toks) (o:=.lst (ai7 xs lo hi)) (λb ob q=>aU _ q) (aQ _) ?_,rfl,q _ (I.hok.fresh (aQ _))⟩
 exact⟨bL (asP xs lo hi) hz,_,0,(r.drop (HT.sIx xs.length 0 lo)).take (HT.sIx xs.length xs.length hi-HT.sIx xs.length 0 lo),a9 _ rfl⟩
noncomputable def afD:V->Bool
 |.non=>true
 |.bl _=>true
 |.int _=>true
 |.str _=>true
 |_=>false
noncomputable def eqV:V->V->Bool
 |.non,.non=>true
 |.bl a,.bl b=>a==b
 |.bl a,.int b=>(if a then 1 else 0)==b
 |.int a,.bl b=>a==(if b then 1 else 0)
 |.int a,.int b=>a==b
 |.str a,.str b=>a==b
 |_,_=>false
theorem aJK{A:Around}{s:Shared}{y x:V}{u v:Value}(ry:RelV y u)(rx:RelV x v)(fy:afD y=true)(fx:afD x=true):SeqAt.EqAt A s u v (eqV y x):=by
 cases y with
 |non=>
  cases ry;cases x with
  |non=>cases rx;exact SeqAt.EqAt.same _
  |bl b=>cases rx;exact SeqAt.EqAt.none_bool b
  |int b=>obtain⟨t,rfl⟩:=rx;exact SeqAt.EqAt.none_int b t
  |str b=>obtain⟨t,rfl⟩:=rx;exact SeqAt.EqAt.none_str b t
  |_=>exact absurd (show false=true from fx) a8
 |bl a=>
  cases ry;cases x with
  |non=>cases rx;exact SeqAt.EqAt.bool_none a
  |bl b=>cases rx;exact SeqAt.EqAt.bool_bool a b
  |int b=>obtain⟨t,rfl⟩:=rx;exact SeqAt.EqAt.bool_int a b t
  |str b=>obtain⟨t,rfl⟩:=rx;exact SeqAt.EqAt.bool_str a b t
  |_=>exact absurd (show false=true from fx) a8
 |int a=>
  obtain⟨t',rfl⟩:=ry;cases x with
  |non=>cases rx;exact SeqAt.EqAt.int_none a t'
  |bl b=>cases rx;exact SeqAt.EqAt.int_bool a t' b
  |int b=>obtain⟨t,rfl⟩:=rx;exact SeqAt.EqAt.int_int a t' b t
  |str b=>obtain⟨t,rfl⟩:=rx;exact SeqAt.EqAt.int_str a t' b t
  |_=>exact absurd (show false=true from fx) a8
 |str a=>
  obtain⟨t',rfl⟩:=ry;cases x with
  |non=>cases rx;exact SeqAt.EqAt.str_none a t'
  |bl b=>cases rx;exact SeqAt.EqAt.str_bool a t' b
  |int b=>obtain⟨t,rfl⟩:=rx;exact SeqAt.EqAt.str_int a t' b t
  |str b=>obtain⟨t,rfl⟩:=rx;exact SeqAt.EqAt.str_str a t' b t
  |_=>exact absurd (show false=true from fx) a8
 |_=>exact absurd (show false=true from fy) a8
noncomputable def eqU(x:V)(u:Value):Bool:=match u with
 |.none=>eqV .non x
 |.bool b=>eqV (.bl b) x
 |.int i _=>eqV (.int i) x
 |.str z _=>eqV (.str z) x
 |_=>false
theorem aB9{x y:V}{u:Value}(r:RelV y u)(f:afD y=true):eqU x u=eqV y x:=by
 cases y with
 |non=>cases r;rfl
 |bl b=>cases r;rfl
 |int i=>obtain⟨t,rfl⟩:=r;rfl
 |str z=>obtain⟨t,rfl⟩:=r;rfl
 |_=>exact absurd (show false=true from f) a8
theorem ahL{x:V}:∀{xs:List V} {us:List Value},Vals xs us->xs.all afD=true->us.any (eqU x)=xs.any λy=>eqV y x
 |_,_,.nil,_=>rfl
 |y::xs,u::us,.cons r t,f=>by
  rw[List.all_cons,bH] at f;rw[bQ,bQ,aB9 r f.1,ahL t f.2]
theorem afP{A:Around}{s:Shared}{x:V}{v:Value}(rx:RelV x v)(fx:afD x=true):∀{xs:List V} {us:List Value},Vals xs us->xs.all afD=true->∀u∈us,SeqAt.EqAt A s u v (eqU x u)
 |_,_,.nil,_=>λu hu=>by cases hu
 |y::xs,u::us,.cons r t,f=>λu' hu=>by
  rw[List.all_cons,bH] at f;rcases aX.mp hu with rfl | hu
  ·rw[aB9 r f.1];exact aJK r rx f.1 fx
  ·exact afP rx fx t f.2 u' hu
noncomputable def inV(x:V)(xs:List V):Bool:=xs.any λy=>eqV y x
def rIn(K:FG)(neg:Bool):R2:=λx y H Q=>∃p xs,y=.ref p/\(SqL K H p xs∨SqT K H p xs)/\afD x=true/\xs.all afD=true/\Q (.bl (if neg then !inV x xs else inV x xs)) H
theorem ayY:OpR X (compareOp .In) (rIn X.K false):=by
 intro pins s σ H x y v u Q I rx ry h;obtain⟨p,xs,rfl,hq,fx,fs,q⟩:=h;cases ry;rcases hq with hq | hq
 ·obtain⟨its,r,pl,hz⟩:=I.list hq;refine SeqAt.in_listAt (eqU x) pl.isList (λw hw=>afP rx fx r fs w (by simpa using hw)) ⟨.bl _,H,I,rfl,?_⟩;rw[show its.toArray.any (eqU x)=its.any (eqU x) by simp,ahL r fs];exact q
 ·obtain⟨its,r,pl,hz⟩:=I.tuple hq;refine SeqAt.in_tupleAt (eqU x) pl (λw hw=>afP rx fx r fs w (by simpa using hw)) ⟨.bl _,H,I,rfl,?_⟩;rw[show its.toArray.any (eqU x)=its.any (eqU x) by simp,ahL r fs];exact q
theorem aq6:OpR X (compareOp .NotIn) (rIn X.K true):=by
 intro pins s σ H x y v u Q I rx ry h;obtain⟨p,xs,rfl,hq,fx,fs,q⟩:=h;cases ry;rcases hq with hq | hq
 ·obtain⟨its,r,pl,hz⟩:=I.list hq;refine SeqAt.notIn_listAt (eqU x) pl.isList (λw hw=>afP rx fx r fs w (by simpa using hw)) ⟨.bl _,H,I,rfl,?_⟩;rw[show its.toArray.any (eqU x)=its.any (eqU x) by simp,ahL r fs];exact q
 ·obtain⟨its,r,pl,hz⟩:=I.tuple hq;refine SeqAt.notIn_tupleAt (eqU x) pl (λw hw=>afP rx fx r fs w (by simpa using hw)) ⟨.bl _,H,I,rfl,?_⟩;rw[show its.toArray.any (eqU x)=its.any (eqU x) by simp,ahL r fs];exact q
theorem aq1:ad0 X (.builtin "len") (λxs H Q=>∃p ys,xs=[.ref p]/\(SqL X.K H p ys∨SqT X.K H p ys)/\Q (.int ys.length) H):=by
 intro pins s σ H xs us Q I r h;obtain⟨p,ys,rfl,hq,q⟩:=h;obtain⟨u,rfl,rx⟩:=acC r;cases rx;have hn:=ajG;rcases hq with hq | hq
 ·obtain⟨its,r',pl,hz⟩:=I.list hq;have hlen:=r'.length;exact Calls.call_len_list pl.isList (by simp only[bI]<;>omega) ⟨.int ys.length,H,I.tok _,⟨s.toks+1,by rw[bI,hlen]⟩,q⟩
 ·obtain⟨its,r',pl,hz⟩:=I.tuple hq;have hlen:=r'.length;exact len_tuple pl (by simp only[bI]<;>omega) ⟨.int ys.length,H,I.tok _,⟨s.toks+1,by rw[bI,hlen]⟩,q⟩
theorem ar3:ad0 X (.builtin "len") (λxs H Q=>∃z,xs=[.str z]/\z.length<=sizeLine/\Q (.int z.length) H):=by
 intro pins s σ H xs us Q I r h;obtain⟨z,rfl,hz,q⟩:=h;obtain⟨u,rfl,t,rfl⟩:=acC r;have hn:=ajG;exact len_str ⋯ ⟨.int z.length,H,I.tok _,⟨()⟩,q⟩
def tyV(K:FG)(T:String)(x:V)(H:Hp):Prop:=match x with
 |.str _=>T="str"
 |.int _=>T="int"
 |.ref p=>(T="list"/\∃xs,SqL K H p xs)∨(T="tuple"/\∃o,K.lookup p=some o/\o.cls=.type "tuple"/\o.dict=none)∨
   (T="dict"/\((∃kvs,H p=some (.dK kvs))∨∃kvs,H p=some (.dT kvs)))∨(T="set"/\∃S n,H p=some (.set S n))
 |_=>False
theorem aCQ{pins:List (Addr×Obj)}{σ:St}{H:Hp}{s:Shared}{T:String}{x:V}{v:Value}(I:Inv X pins σ H s)(r:RelV x v)(ty:tyV X.K T x H):
  s.TypeIs v T/\∀a,v=.ref a->∃ob,s.heap.get? a=some ob/\ob.dict=none:=by
 cases x with
 |str z=>
  obtain⟨t,rfl⟩:=r;cases (show T="str" from ty);exact⟨typeIs_str s z t,λ_ e=>nomatch e⟩
 |int i=>
  obtain⟨t,rfl⟩:=r;cases (show T="int" from ty);exact⟨typeIs_int s i t,λ_ e=>nomatch e⟩
 |ref p=>
  cases r;rcases ty with ⟨rfl,xs,hq⟩ | ⟨rfl,o,hk,hc,hd⟩ | ⟨rfl,hk⟩ | ⟨rfl,S,n,hk⟩
  ·obtain⟨its,_,pl,_⟩:=I.list hq;refine⟨pl.isList.typeIs,λa e=>?_⟩;cases e;obtain⟨o,n,e,c,hd,_⟩:=pl;exact⟨o,e,hd⟩
  ·refine⟨⟨o,I.kIn p o hk,hc⟩,λa e=>?_⟩;cases e;exact⟨o,I.kIn _ o hk,hd⟩
  ·have z:∃o,s.heap.get? p=some o/\o.ExactDict:=by
    rcases hk with ⟨kvs,hk⟩ | ⟨kvs,hk⟩
    ·obtain⟨_,_,_,_,o,_,_,e,ex,_⟩:=I.hok p _ hk;exact⟨o,e,ex⟩
    ·obtain⟨_,_,_,_,o,_,_,e,ex,_⟩:=I.hok p _ hk;exact⟨o,e,ex⟩
   obtain⟨o,e,ex⟩:=z;refine⟨⟨o,e,ex.1⟩,λa e2=>?_⟩;cases e2;exact⟨o,e,ex.2.1⟩
  ·obtain⟨o,_,_,_,e,ex,_⟩:=I.hok p _ hk;refine⟨⟨o,e,ex.1⟩,λa e2=>?_⟩;cases e2;exact⟨o,e,ex.2.1⟩
 |_=>exact False.elim ty
def aN0(K:FG)(T:String)(r:V->List V->Hp->VK->Prop)(to:TE):TE:=λσ H Q=>to σ H λx H1=>tyV K T x H1/\r x [] H1 Q
def tBM(K:FG)(T:String)(r:V->List V->Hp->VK->Prop)(to:TE)(t:TA):TE:=λσ H Q=>to σ H λx H1=>tyV K T x H1/\t σ H1 λxs H2=>r x xs H2 Q
variable{o e:Expr}{es:List Expr}{to:TE}{t:TA}{name:Str}{apos cpos:Pos}{T id:String}{r:V->List V->Hp->VK->Prop}
theorem aKG(pa:PlainAttrs T)(slot:Slot T name id)(hty:typeOf (.builtin id)=pure (.type "method_descriptor"))(hm:MtR X id r)(ho:PE X o to)
  (hbase:attributeBase o name X.env (eval o X.env)=eval o X.env:=by rfl) (hline:(apos.endLine==cpos.line)=true:=by rfl):PE X (.Call (.Attribute o name apos) [] [] cpos) (aN0 X.K T r to):=by
 intro pins s σ H Q I h;refine wpAny_Call_method0_late hbase hline (thn (ho pins s σ H _ I h) λv s1 ⟨x,H1,I1,r1,ty,q1⟩=>?_);obtain⟨h1,h2⟩:=aCQ I1 r1 ty;exact⟨T,id,pa,slot,hty,h1,h2,Calls.callWith_builtin rfl (PySem.evalArgs_none (hm pins s1 σ H1 x [] v [] Q I1 r1 .nil q1))⟩
theorem asR(pa:PlainAttrs T)(slot:Slot T name id)(hty:typeOf (.builtin id)=pure (.type "method_descriptor"))(hm:MtR X id r)(ho:PE X o to)(ha:PA X (e::es) t)
  (hbase:attributeBase o name X.env (eval o X.env)=eval o X.env:=by rfl)
  (hfew:((backTo cpos (starEach (e::es) X.env)).all (λx=> !x.1)&&(backToKw cpos (keywordEach [] X.env)).all (λx=>x.1.isSome)
   &&decide ((e::es).length+([]:List Keyword).length+(if ([]:List Keyword).isEmpty then 0 else 1)<30))=true:=by rfl)
  (hline:(apos.endLine==cpos.line)=true:=by rfl) (hs:starEach (e::es) X.env=(false,eval e X.env)::starEach es X.env:=by rfl) (hplain:(backTo cpos (starEach es X.env)).any (·.1)=false:=by rfl):
  PE X (.Call (.Attribute o name apos) (e::es) [] cpos) (tBM X.K T r to t):=by
 intro pins s σ H Q I h;refine wpAny_Call_method_late hbase hfew hline rfl (thn (ho pins s σ H _ I h) λv s1 ⟨x,H1,I1,r1,ty,q1⟩=>?_);obtain⟨h1,h2⟩:=aCQ I1 r1 ty;refine⟨T,id,pa,slot,hty,h1,h2,?_⟩;have hA:=ha cpos pins s1 σ H1 _ I1 q1;rw[hs] at hA ⊢;refine Calls.callWith_builtin (by show (false||(backTo cpos (starEach es X.env)).any (·.1))=false;rw[hplain]<;>rfl) (Calls.evalArgs_plain ?_)
 exact thn hA λus s2 ⟨vs,H2,I2,r2,q2⟩=>hm pins s2 σ H2 x vs v us Q I2 r1 r2 q2
end
def MtM(X:Cx)(id:String)(r:V->List V->Hp->VK->Prop):Prop:=
 ∀(pins:List (Addr×Obj)) (s:Shared) (σ:St) (H:Hp) (x:V) (xs:List V) (v:Value) (us:List Value) (Q:VK),Inv X pins σ H s->RelV x v->Vals xs us->r x xs H Q->
  wpAny (model X.prog X.w) X.A (call (.builtin id) (v::us)) (EP X pins σ Q) X.xe s
theorem Vals.one:∀{x:V} {us:List Value},Vals [x] us->∃u,us=[u]/\RelV x u
 |_,_,.cons r .nil=>⟨(),r⟩
theorem Vals.rep{xs:List V}{us:List Value}(h:Vals xs us):∀k:Nat,Vals (List.replicate k xs).flatten (List.replicate k us).flatten
 |0=>.nil
 |k+1=>by
  rw[d7,d7,dI,dI];exact Vals.append h (Vals.rep h k)
theorem apL(its:List Value):∀(k:Nat) (acc:List Value),
  List.foldl (λx1 x2=>x1++x2) acc.toArray (List.replicate k its.toArray)=(acc++(List.replicate k its).flatten).toArray
 |0,acc=>by simp
 |k+1,acc=>by
  have e:acc.toArray++its.toArray=(acc++its).toArray:=by simp
  have e2:(acc++its)++(List.replicate k its).flatten=acc++(List.replicate (k+1) its).flatten:=by
   rw[d7,dI,d8]
  rw[←e2,←apL its k (acc++its),←e,d7,List.foldl_cons]
section
variable{X:Cx}{pins:List (Addr×Obj)}{σ:St}{H:Hp}{s:Shared}{l b:Addr}{xs ys zs:List V}
theorem Inv.lset{its its':List Value}{n:Nat}{f:Array Value->Array Value}{t':Nat}(I:Inv X pins σ H s)(hH:H l=some (.lst xs))
  (e:s.heap.get? l=some {cls:=.type "list",data:=.seq its.toArray n}) (hf:f its.toArray=its'.toArray) (hv:Vals ys its') (hz:ys.length<=sizeLine):
  Inv X pins σ (upd H l (.lst ys)) {s with heap:=s.heap.update l (Obj.mapSeq f),toks:=t'}:=by
 have q:=PySem.IsL.update e f;rw[hf] at q;refine I.write (x:=l) (e:=l) (by rw[hH];exact trivial) (.inl rfl) (λb' u hb hu=>(cE s.heap (Obj.mapSeq f) (Ne.symm hb)).trans hu) ⟨_,q⟩ ?_;exact⟨hz,its',_,hv,q⟩
theorem Inv.lnew{its:List Value}{t':Nat}(I:Inv X pins σ H s)(hv:Vals ys its)(hz:ys.length<=sizeLine):
  Inv X pins σ (upd H s.heap.objs.size (.lst ys)) {s with heap:=s.heap.push {cls:=.type "list",data:=.seq its.toArray},toks:=t'}:=
 I.laid (λ_ _ q=>aU _ q) (aQ _) ⟨hz,its,0,hv,a9 _ rfl⟩
theorem Inv.fresh(I:Inv X pins σ H s):H s.heap.objs.size=none:=I.hok.fresh (aQ _)
theorem Inv.lstM(I:Inv X pins σ H s)(hH:H l=some (.lst xs)):xs.length<=sizeLine/\∃(its:List Value) (n:Nat),Vals xs its/\xs.length=its.length/\s.heap.get? l=some {cls:=.type "list",data:=.seq its.toArray n}:=by
 obtain⟨z,its,n,r,e⟩:=I.hok l _ hH;exact⟨z,its,n,r,r.length,e⟩
theorem aA4{n:Nat}(h:n<=sizeLine):Builtin.List.listTooLong n=false:=by
 unfold Builtin.List.listTooLong;exact fC ⋯
end
section
variable{X:Cx}
def axL:V->List V->Hp->VK->Prop:=λx vs H Q=>∃l xs y,x=.ref l/\vs=[y]/\H l=some (.lst xs)/\xs.length<sizeLine/\Q .non (upd H l (.lst (xs++[y])))
theorem aoL:MtM X "list.append" axL:=by
 intro pins s σ H x vs v us Q I rx rv h;obtain⟨l,xs,y,rfl,rfl,hH,hz,q⟩:=h;cases rx;obtain⟨u,rfl,ru⟩:=rv.one;obtain⟨z,its,n,r,hl,e⟩:=I.lstM hH;refine call_meets F.slot_list_append ⟨_,e,rfl⟩ F.entry_list_append (F.args_list_append_2 _ _) (PySem.list_append l its.toArray n u (by rw[bI];omega)) ⟨e,?_⟩;refine⟨.non,_,I.lset (its':=its++[u]) hH e (by simp) (r.append (.cons ru .nil)) ?_,rfl,q⟩;rw[aY,bX];omega
def aOF:R2:=λx y H Q=>∃l b xs zs,x=.ref l/\y=.ref b/\H l=some (.lst xs)/\H b=some (.lst zs)/\xs.length+zs.length<=sizeLine/\∀p,H p=none->Q (.ref p) (upd H p (.lst (xs++zs)))
theorem aH2:OpR X (binaryOp .Add) aOF:=by
 intro pins s σ H x y v u Q I rx ry h;obtain⟨l,b,xs,zs,rfl,rfl,hH,hB,hz,q⟩:=h;cases rx;cases ry;obtain⟨z,its,n,r,hl,e⟩:=I.lstM hH;obtain⟨z2,its2,n2,r2,hl2,e2⟩:=I.lstM hB;refine PySem.P.add_list e e2 ?_ (by rw[bI,bI];omega);have ea:its.toArray++its2.toArray=(its++its2).toArray:=by simp
 rw[ea];exact⟨.ref _,_,I.lnew (t':=s.toks) (r.append r2) (by rw[aY];omega),rfl,q _ I.fresh⟩
def aTP:R2:=λx y H Q=>∃l k xs,x=.ref l/\y=.int k/\H l=some (.lst xs)/\ -(2^63)<=k/\k<2^63/\xs.length*k.toNat<=sizeLine/\
 ∀p,H p=none->Q (.ref p) (upd H p (.lst (List.replicate k.toNat xs).flatten))
theorem aGF{α:Type}(xs:List α)(k:Nat):(List.replicate k xs).flatten.length=k*xs.length:=by
 induction k with
 |zero=>simp
 |succ k ih=>rw[d7,dI,aY,ih,Nat.succ_mul,Nat.add_comm]
theorem aIU:OpR X (binaryOp .Mult) aTP:=by
 intro pins s σ H x y v u Q I rx ry h;obtain⟨l,k,xs,rfl,rfl,hH,h1,h2,hz,q⟩:=h;cases rx;obtain⟨t,rfl⟩:=ry;obtain⟨z,its,n,r,hl,e⟩:=I.lstM hH;have hlen:its.toArray.size*k.toNat<=sizeLine:=by rw[bI,←hl];exact hz
 have hcap:¬its.toArray.size*k.toNat>(2^63-1) / 8:=by
  have:(sizeLine:Nat)<=(2^63-1) / 8:=by decide
  omega
 have hfit:¬(!Builtin.List.listFitsIndex k)=true:=by
  rw[fitsIndex_both h1 h2];exact a8
 have hlong:¬Builtin.List.listTooLong (its.toArray.size*k.toNat)=true:=by
  rw[aA4 hlen];exact a8
 have hnew:List.foldl (λx1 x2=>x1++x2) #[] (List.replicate (if its.toArray.isEmpty=true then 0 else k.toNat) its.toArray)=(List.replicate k.toNat its).flatten.toArray:=by
  have f0:∀m:Nat,List.foldl (λx1 x2=>x1++x2) #[] (List.replicate m its.toArray)=(List.replicate m its).flatten.toArray:=λm=>by
   have:=apL its m [];rw[List.nil_append] at this;exact this
  rw[f0];cases its with
  |nil=>simp
  |cons a r'=>rw[if_neg (by simp)]
 refine wpAny_binaryOp_repeat_ref (T:="list") (U:="int") (by decide) ⟨_,e,rfl⟩ (λs'=>typeIs_int s' k t) noFill_list_mul F.fills_int_mul F.slot_int_rmul repeat_list F.slot_int_index.lookup
  (call_meets F.slot_int_rmul (typeIs_int s k t) F.entry_int_rmul (F.args_int_rmul_2 _ _) (int___rmul___int_list k t l its.toArray n)
   ⟨e,rfl,⟨_,e,rfl⟩,call_meets F.slot_list_mul ⟨_,e,rfl⟩ F.entry_list_mul (F.args_list_mul_2 _ _) (AutoListH.list___mul___list_int_3 l its.toArray n k t hfit hcap hlong) ⟨e,?_⟩⟩)
 rw[hnew];exact⟨.ref _,_,I.lnew (t':=s.toks) (r.rep k.toNat) (by rw[aGF,Nat.mul_comm];exact hz),rfl,q _ I.fresh⟩
variable{prog:Program}{w:World}{A:Around}{E:Value->Shared->Prop}{s:Shared}
end
end L2
namespace Att
open PySem PySem.W PySem.Calls PyProof.Rows
theorem alF{P:Params}{h:Heap}:∀(ns:List Int) (vs:List Value),WellAll P h vs (ns.map WData.int)->IntsAre vs ns:=by
 intro ns;induction ns with
 |nil=>
  intro vs w;rw[List.map_nil] at w;cases w;exact .nil
 |cons n ns ih=>
  intro vs w;rw[List.map_cons] at w;cases w with
  |cons a b=>
   cases a;exact .cons _ _ (ih _ b)
theorem ayO{l:OpenLaw}{n:Nat}(hn:l.most=some n){P:Params}{h:Heap}{args:List WData}{vals:List Value}
  (hpre:l.row.toRowW.claim.pre args=true) (hwl:WellAll P h vals args):
  ∃a vs ns,vals=[Value.ref a]/\args=[WData.list (ns.map WData.int)]/\h.get? a=some {cls:=.type "list",data:=.seq vs.toArray}/\IntsAre vs ns/\ns.length<=n:=by
 have hsh:WShape.hasAll [] args [.list .int]=true:=(pre_splitW hpre).1;have hc:l.pre.holds [] {args:=args}=true:=(pre_splitW hpre).2;obtain⟨d,r,rfl,h1,h2⟩:=hasAllW_cons hsh;obtain rfl:=hasAllW_nil h2;obtain⟨xs,rfl,h3⟩:=hasW_list h1;obtain⟨ns,rfl⟩:=items_int h3;have hlen:ns.length<=n:=by
  unfold OpenLaw.pre at hc;have h4:(WTm.not (.lt (.lit (.int (n:Int))) (.len (.arg 0)))).holds [] {args:=[.list (ns.map .int)]}=true:=by
   have h4:=(holds_andW hc).1;rw[hn] at h4;exact h4
  have h5:=condW_of h4 (w_not (w_lt w_lit (w_len_list (w_arg rfl))));rw[List.length_map] at h5;refine Nat.le_of_not_lt λq=>?_;have q':(n:Int)<((ns.length:Nat):Int):=⋯
  first
   |(rw[decide_eq_true q'] at h5;exact absurd h5 (by decide))
   |(simp at h5;omega)
 cases hwl with
 |cons w1 w2=>
  cases w2;cases w1 with
  |list ho hall=>exact⟨_,_,ns,rfl,rfl,ho,alF ns _ hall,hlen⟩
theorem ay5(l:OpenLaw)(args:List WData):l.row.toRowW.claim.post args (.bool true) args=true:=
 postW_of (r:=l.row.toRowW) (X:=(true==true))
  (show WShape.has [] (.bool true) .bool=true by first | rfl | decide | simp[WShape.has,WShape.arms,WShape.armsAll])
  (show (WTm.eq .res (.lit (.bool true))).value [] {args:=args,res:=some (.bool true),after:=args}=some (.bool (true==true)) from w_eq_bool (w_res rfl) w_lit) rfl
theorem attach_call{l:OpenLaw}{n:Nat}{q:Program}{loose:List Str}{XP:(Str->Option Value)->Heap->Prop}{YP:World->Heap->Prop}{d:DefRec}
  (hn:l.most=some n) (hdf:d.params.defaults=[])
  (call:∀(w:World) (s₀ s₁:Shared) (mg mb:Str->Option Value) (fa:Addr) (o:Obj) (pm cd doc:Value) (a:Addr) (vs:List Value) (ns:List Int),
   Ground q loose [] XP w s₀ mg mb s₁.heap->YP w s₁.heap->
   s₁.heap.get? fa=some o->o.data=.func (docDef d.name d.params d.body d.scope pm cd doc)->s₁.heap.CodeRec cd d.name->mg d.name=some (.ref fa)->
   s₁.heap.get? a=some {cls:=.type "list",data:=.seq vs.toArray}->IntsAre vs ns->ns.length<=n->s₁.gens= #[]->
   codeAny (model l.prog w) callerA (.call (.ref fa) ⟨[.ref a],[]⟩) (λr s'=>r=.ok (.ret (.bool true))/\OldK s₁.heap s'.heap/\s'.os=s₁.os/\AllBare s'.gens) s₁):
  WalkO q loose XP YP l.row.toRowW d [] (λf vs=>PySem.call f vs):=by
 intro w s₀ s₁ mg mb G Y fa o pm cd doc dV kV ho hd hcd hD hmg hg args vals as hpre hlay hrd hwl hlo;obtain rfl:dV=.none:=Dflts.none hD hdf;obtain rfl:kV=.none:=Dflts.noKw hD;obtain⟨a,vs,ns,rfl,rfl,hobj,hints,hlen⟩:=ayO hn hpre hwl;refine enter_call (codeAny_mono (call w s₀ s₁ mg mb fa o pm cd doc a vs ns G Y ho (fd_plain hd) hcd hmg hobj hints hlen hg) λr s' hq=>?_);obtain⟨rfl,h2,h3,h4⟩:=hq;exact⟨.inl ⟨.bool true,.bool true,[],rfl,λ_=>rfl,.bool true,ay5 l _,λ_=>⟨List.Pairwise.nil,λ_ hm=>(nomatch hm)⟩⟩,h2,h3,h4⟩
section
variable{prog:Program}{w:World}{A:Around}{E:Value->Shared->Prop}{s:Shared}{K:Frag}
end
end Att
namespace L2
open PySem PySem.Spec PyProof.Rows
theorem ajF:∀{vs:List Value} {ns:List Int},IntsAre vs ns->Vals (ns.map V.int) vs
 |_,_,.nil=>.nil
 |_,_,.cons n t h=>.cons ⟨t,rfl⟩ (ajF h)
noncomputable def abB(s:Stmt)(j:Nat):Stmt:=match s with
 |.ClassDef _ _ _ body _ _ _ _ _ _ _=>body.getD j (.Pass ⟨0,0,0,0⟩)
 |_=>.Pass ⟨0,0,0,0⟩
noncomputable def abC(s:Stmt):Arguments:=match s with
 |.FunctionDef _ a _ _ _ _ _ _ _ _=>a
 |_=>{posonlyargs:=[],args:=[],vararg:=none,kwonlyargs:=[],kw_defaults:=[],kwarg:=none,defaults:=[]}
noncomputable def aaX(s:Stmt):List Stmt:=match s with
 |.FunctionDef _ _ b _ _ _ _ _ _ _=>b
 |_=>[]
noncomputable def aaC(s:Stmt):Scope:=match s with
 |.FunctionDef _ _ _ _ _ _ sc _ _ _=>sc
 |_=>{kind:=.function,names:=[],isGenerator:=false,isCoroutine:=false}
abbrev CX0:CXT:=λ_ _ _ _ _ _=>False
abbrev E0:XK:=λ_ _ _=>False
theorem auV{X:Cx}:ahA CX0 X E0:=λ_ _ _ _ _ _ _ h=>h.elim
structure Fun(K:FG)(x qual:Str)(st:Stmt)(f:Addr)(fd:FuncData):Prop where
 ex:∃(oc:Value) (od:Option Addr) (kV doc pm:Value) (an:Option Addr) (cdv ct:Value) (osl:Array (Option Value)),
  fd=PySem.W.fnOf x qual (abC st) (aaX st) (aaC st) .none kV doc pm an cdv ct/\K.lookup f=some ⟨oc,od,.func fd,osl⟩/\PySem.W.codeIn K cdv qual=true
 kp:PySem.W.keepIn K (.ref f)=true
section
variable{P:Program}{w:World}{K:FG}{mg:Str->Option Value}{base:Heap}
theorem Fun.ok{x qual:Str}{st:Stmt}{f:Addr}{fd:FuncData}{N ps:List Str}{k:Nat}{sp:Sp}(F:Fun K x qual st f fd)(S:FnScope N ps (aaC st))(len:∀vs H Q E,sp vs H Q E->vs.length=ps.length)
  (hbody:∀(cdv:Value) (A:Around) (outer:List Env) (s:Shared) (H:Hp) (vs:List V) (Q:VK) (E:XK),Room k (A.deeper (envOfC qual (aaC st) s.heap.objs.size f cdv))->sp vs H Q E->
   ∃t,PSs (asC CX0 P w K mg base N qual (aaC st) f cdv A outer s H E).nox (aaX st) t/\t {nx:=λ_ H'=>Q .non H',rt:=Q} (start N vs) H):FnOk P w K mg base CX0 (k+1) f fd ps sp:=by
 obtain⟨oc,od,kV,doc,pm,an,cdv,ct,osl,rfl,lk,hcd⟩:=F.ex;refine aC5 lk hcd S len λA outer s H vs Q E hr hsp=>?_;obtain⟨t,h,q⟩:=hbody cdv A outer s H vs Q E hr hsp;exact⟨t,h.nox,q⟩
theorem Fun.binds{x qual:Str}{st:Stmt}{f:Addr}{fd:FuncData}{ps:List Str}(F:Fun K x qual st f fd)
  (h:∀(kV doc pm:Value) (an:Option Addr) (cdv ct:Value) (us:List Value),us.length=ps.length->bindArgs (PySem.W.fnOf x qual (abC st) (aaX st) (aaC st) .none kV doc pm an cdv ct) ⟨us,[]⟩=pure (ps.zip us)):Binds K fd ps []:=by
 obtain⟨oc,od,kV,doc,pm,an,cdv,ct,osl,rfl,lk,hcd⟩:=F.ex;exact .all (h kV doc pm an cdv ct)
theorem arK{x qual:Str}{st:Stmt}{f:Addr}{oc:Value}{od an:Option Addr}{osl:Array (Option Value)}{kV doc pm cdv ct:Value}(l:K.lookup f=some ⟨oc,od,.func (PySem.W.fnOf x qual (abC st) (aaX st) (aaC st) .none kV doc pm an cdv ct),osl⟩)
  (c:PySem.W.codeIn K cdv qual=true) (k:PySem.W.keepIn K (.ref f)=true):Fun K x qual st f (PySem.W.fnOf x qual (abC st) (aaX st) (aaC st) .none kV doc pm an cdv ct):=⟨⟨oc,od,kV,doc,pm,an,cdv,ct,osl,rfl,l,c⟩,k⟩
variable{X:Cx}
end
theorem aaU{A B:Prop}(h:B):if false=true then A else B:=by
 rw[if_neg a8];exact h
theorem aa4{A B:Prop}(h:A):if true=true then A else B:=by
 rw[if_pos rfl];exact h
theorem aIM{c A B:Prop}[Decidable c](h1:c->A)(h2:¬c->B):if c then A else B:=by
 by_cases h:c
 ·rw[if_pos h];exact h1 h
 ·rw[if_neg h];exact h2 h
def Same(H H':Hp):Prop:=∀b o,H b=some o->H' b=some o
theorem Same.refl(H:Hp):Same H H:=λ_ _ h=>h
theorem Same.trans{H H1 H2:Hp}(a:Same H H1)(b:Same H1 H2):Same H H2:=λc o h=>b c o (a c o h)
theorem Same.free{H H':Hp}(e:Same H H'){l:Addr}(h:H' l=Option.none):H l=Option.none:=by
 cases q:H l with
 |none=>rfl
 |some o=>
  rw[e l o q] at h;cases h
theorem Same.seq{K:FG}{H H':Hp}{a:Addr}{xs:List V}(e:Same H H')(h:SqL K H a xs):SqL K H' a xs:=by
 rcases h with (h | ⟨o,h⟩) | h
 ·exact .inl (.inl (e _ _ h))
 ·exact .inl (.inr ⟨o,e _ _ h⟩)
 ·exact .inr h
section
variable{X:Cx}
theorem awN:ad0 X (.builtin "isinstance") (λxs H Q=>∃i:Int,xs=[.int i,.ty "int"]/\Q (.bl true) H):=by
 intro pins s σ H xs us Q I r h;obtain⟨i,rfl,q⟩:=h;obtain⟨u,w',rfl,⟨t,rfl⟩,r2⟩:=aoS r;cases r2;exact PySem.IsiPair.int_int ⟨.bl true,H,I,rfl,q⟩
theorem awS:ad0 X (.builtin "isinstance") (λxs H Q=>∃i:Int,xs=[.int i,.ty "bool"]/\Q (.bl false) H):=by
 intro pins s σ H xs us Q I r h;obtain⟨i,rfl,q⟩:=h;obtain⟨u,w',rfl,⟨t,rfl⟩,r2⟩:=aoS r;cases r2;exact PySem.IsiPair.int_bool ⟨.bl false,H,I.tok _,rfl,q⟩
end
structure Df(P:Program)(w:World)(K:FG)(mg:Str->Option Value)(base:Heap)(x:Str)(k:Nat)(ps:List Str)(sp:Sp):Prop where
 ex:∃(f:Addr) (fd:FuncData),FnOk P w K mg base CX0 k f fd ps sp/\Binds K fd ps []/\mg x=some (.ref f)/\PySem.W.keepIn K (.ref f)=true
structure Fn(K:FG)(mg:Str->Option Value)(x:Str)(st:Stmt)(ps:List Str):Prop where
 ex:∃(f:Addr) (fd:FuncData),Fun K x x st f fd/\Binds K fd ps []/\mg x=some (.ref f)
section
variable{P:Program}{w:World}{K:FG}{mg:Str->Option Value}{base:Heap}{x:Str}{st:Stmt}{ps N:List Str}{k:Nat}{sp:Sp}
theorem Fn.df(F:Fn K mg x st ps)(S:FnScope N ps (aaC st))(len:∀vs H Q E,sp vs H Q E->vs.length=ps.length)
  (hbody:∀(f:Addr) (cdv:Value) (A:Around) (outer:List Env) (s:Shared) (H:Hp) (vs:List V) (Q:VK) (E:XK),Room k (A.deeper (envOfC x (aaC st) s.heap.objs.size f cdv))->sp vs H Q E->
   ∃t,PSs (asC CX0 P w K mg base N x (aaC st) f cdv A outer s H E).nox (aaX st) t/\t {nx:=λ_ H'=>Q .non H',rt:=Q} (start N vs) H):Df P w K mg base x (k+1) ps sp:=by
 obtain⟨f,fd,F1,hb,hm⟩:=F.ex;exact⟨⟨f,fd,F1.ok S len (hbody f),hb,hm,F1.kp⟩⟩
theorem aaK{h:Heap}{f:Addr}{oc:Value}{od an:Option Addr}{osl:Array (Option Value)}{kV doc pm cdv ct:Value}(X:K.In h)(G:h.Ns mainGlobals mg)
  (a:PySem.W.nsIn K mainGlobals x=some (some (.ref f))) (l:K.lookup f=some ⟨oc,od,.func (PySem.W.fnOf x x (abC st) (aaX st) (aaC st) .none kV doc pm an cdv ct),osl⟩)
  (c:PySem.W.codeIn K cdv x=true) (k:PySem.W.keepIn K (.ref f)=true)
  (hb:∀(kV doc pm:Value) (an:Option Addr) (cdv ct:Value) (us:List Value),us.length=ps.length->bindArgs (PySem.W.fnOf x x (abC st) (aaX st) (aaC st) .none kV doc pm an cdv ct) ⟨us,[]⟩=pure (ps.zip us)):Fn K mg x st ps:=by
 have F:=arK (st:=st) l c k;exact⟨⟨f,_,F,F.binds (ps:=ps) hb,PySem.W.mg_of X G a⟩⟩
end
section
variable{X:Cx}
theorem aDV{x:Str}{k k':Nat}{ps:List Str}{sp:Sp}{e:Expr}{es:List Expr}{t:TA}{p pos:Pos}(D:Df X.prog X.w X.K X.mg X.base x k ps sp)(hr:Room k' X.A)(ha:PA X (e::es) t)(hk:k<=k':=by decide)(hg:Gl X x:=by rfl)
  (hdb:(x==("__debug__":Str))=false:=by decide) (he:starEach (e::es) X.env=(false,eval e X.env)::starEach es X.env:=by rfl) (hpl:(backTo pos (starEach es X.env)).any (·.1)=false:=by rfl):
  PE X (.Call (.Name x p) (e::es) [] pos) (axO sp [] E0 t):=by
 obtain⟨f,fd,F,hb,hm,kp⟩:=D.ex;exact aF4 F (hr.mono hk) hg hm kp hb .nil auV ha hdb he hpl
end
theorem aaB{H:Hp}{p:Addr}(h:H p=none)(o:HO):Same H (upd H p o):=λb u q=>by rw[aaD (aaJ q h)];exact q
theorem int_eq{a b:Int}:(V.int a=V.int b)↔a=b:=⟨λh=>V.int.inj h,λh=>by rw[h]⟩
theorem ifI{a b:Int}{A B:Prop}(h1:a=b->A)(h2:¬a=b->B):if decide (V.int a=V.int b)=true then A else B:=
 aIM (λc=>h1 (int_eq.mp (eY c))) (λc=>h2 λe=>c (eZ (int_eq.mpr e)))
theorem azQ{a b:Int}{A B:Prop}(h1:¬a=b->A)(h2:a=b->B):if (!decide (V.int a=V.int b))=true then A else B:=by
 by_cases e:a=b
 ·rw[eZ (int_eq.mpr e)];exact aaU (h2 e)
 ·rw[fC λq=>e (int_eq.mp q)];exact aa4 (h1 e)
theorem ifD{c:Prop}[Decidable c]{A B:Prop}(h1:c->A)(h2:¬c->B):if decide c=true then A else B:=
 aIM (λq=>h1 (eY q)) (λq=>h2 λe=>q (eZ e))
theorem ifNe{a b:Int}{A B:Prop}(e:a=b)(h:B):if (!decide (V.int a=V.int b))=true then A else B:=by
 rw[eZ (int_eq.mpr e)];exact aaU h
noncomputable def atQ:Expr->Option Int
 |.Constant (.int i) _ _=>some i
 |_=>none
def aGY(is:List Int):TA:=λ_ H Q=>Q (is.map V.int) H
theorem ax1{X:Cx}:∀{es:List Expr} (is:List Int),es.map atQ=is.map some->PA X es (aGY is)
 |[],[],_=>afL
 |[],_::_,h=>by cases h
 |_::_,[],h=>by cases h
 |e::es,i::is,h=>by
  have h1:atQ e=some i:=(List.cons.inj h).1;have h2:es.map atQ=is.map some:=(List.cons.inj h).2;obtain⟨j,pos,rfl⟩:∃j pos,e=.Constant (.int i) j pos:=by
   unfold atQ at h1;split at h1
   ·cases h1;exact⟨_,()⟩
   ·cases h1
  exact adN aC3 (ax1 is h2)
structure Clos(X:Cx)(scope:Scope)(cl:List (Str×Addr)):Prop where
 is:closureFor scope X.env=pure cl
 sub:∀y c,cl.lookup y=some c->X.env.cells.lookup y=some c
 has:∀y,scope.names.lookup y=some .free->∃c,cl.lookup y=some c
 nocell:∀y∈scope.names,y.2≠ .cell
 kind:scope.kind=.function
 names:∀y∈scope.names,y.2=.local->scope.names.lookup y.1=some .local
noncomputable def aa6(X:Cx)(N:List Str)(scope:Scope)(cl:List (Str×Addr))(C:Addr)(ex:List Addr)(pins:List (Addr×Obj))(s:Shared)(H:Hp):Cx:=
 {X with N:=N,s₀:=s,H₀:=H,env:=compEnvC scope cl C X.env,outer:=X.stack,stack:=X.stack,ex:=ex,fn:=λ_=>false,pn:=X.pn++pins,xe:=λ_ _=>False}
noncomputable def ab1(js:List Nat)(σ:St):St:=js.map λj=>(σ[j]?).getD none
noncomputable def ayJ(ifs:List Expr)(env:Env):Sem Bool:=
 forIn ifs true λc r=>if r=true then (do let ok ←isTrue c env (eval c env);pure (ForInStep.yield ok)) else pure (ForInStep.yield r)
def PF(X:Cx)(ifs:List Expr)(t:TT):Prop:=
 ∀(pins:List (Addr×Obj)) (s:Shared) (σ:St) (H:Hp) (Q:Bool->Hp->Prop),Inv X pins σ H s->t σ H Q->
  wpAny (model X.prog X.w) X.A (ayJ ifs X.env) (TP X pins σ Q) X.xe s
def aPA:TT:=λ_ H Q=>Q true H
theorem aI1{X:Cx}:PF X [] aPA:=λ_ _ _ H _ I h=>wpAny_tests_nil ⟨H,I,h⟩
theorem aKA{X:Cx}{c:Expr}{t:TT}(h:PT X c t):PF X [c] t:=λpins s σ H Q I q=>wpAny_tests_one (h pins s σ H Q I q)
def as1(J:It)(js:List Nat)(σ:St)(tt:TT)(te:TE)(Q:VK)(H1:Hp):Prop:=∀D,H1 D=none->∃W:Nat->Nat->Hp->Prop,(∃m,W 0 m (upd H1 D (.lst [])))/\∀i m H2,W i m H2->
 (J.stop i H2/\Q (.ref D) H2)∨(J.go i H2/\∀v H3,J.yld i H2 v H3->tt (some v::ab1 js σ) H3 λb H4=>if b=true then
  te (some v::ab1 js σ) H4 λy H5=>∃ys,H5 D=some (.lst ys)/\ys.length<sizeLine/\∃m',m'<m/\W (i+1) m' (upd H5 D (.lst (ys++[y])))
  else ∃m',m'<m/\W (i+1) m' H4)
def aHR(wi:TI)(js:List Nat)(tt:TT)(te:TE):TE:=λσ H Q=>wi σ H λJ H1=>as1 J js σ tt te Q H1
noncomputable def apS(env:Env)(n:Str)(k:NameKind):NameKind:=if (k==NameKind.free&&env.scope.kind== .function&&env.kindOf n==some .cell) then .cell else k
theorem aFE{env:Env}{n:Str}{k:NameKind}:(if (k==NameKind.free&&env.scope.kind== .function&&env.kindOf n==some .cell) then (n,NameKind.cell) else (n,k))=(n,apS env n k):=by
 unfold apS;split<;>rfl
theorem afS{env:Env}:∀(names:List (Str×NameKind)) (x:Str),(relabel {kind:=.function,names:=names,isGenerator:=false,isCoroutine:=false} env).names.lookup x=(names.lookup x).map (apS env x)
 |[],_=>rfl
 |(n,k)::r,x=>by
  have ih:=afS (env:=env) r x;unfold relabel at ih ⊢;dsimp only at ih ⊢;rw[bG];dsimp only;rw[aFE,dR,dR,ih];cases hx:x==n with
  |true=>
   have e:x=n:=by simpa using hx
   rw[e];rfl
  |false=>rfl
theorem ad5{env:Env}(scope:Scope)(x:Str):(relabel scope env).names.lookup x=(scope.names.lookup x).map (apS env x):=afS scope.names x
theorem aAE{env:Env}{x:Str}{o:Option NameKind}(hc:o≠some .cell)(h:o.map (apS env x)=some .cell∨o.map (apS env x)=some .free):o=some .free:=by
 cases o with
 |none=>rcases h with h | h<;>cases h
 |some k=>
  by_cases e:k=.free
  ·rw[e]
  ·have z:apS env x k=k:=by
    unfold apS;have e':(k==NameKind.free)=false:=by simpa using e
    rw[e'];rfl
   rw[dU,z] at h;rcases h with h | h
   ·exact absurd h hc
   ·exact h
theorem apQ{env:Env}{scope:Scope}{x:Str}(h:scope.names.lookup x=some .free):(relabel scope env).names.lookup x=some .cell∨(relabel scope env).names.lookup x=some .free:=by
 rw[ad5,h,dU];unfold apS;split
 ·exact .inl rfl
 ·exact .inr rfl
section
variable{X:Cx}{elt iter:Expr}{x:Str}{px pos:Pos}{ifs:List Expr}{scope:Scope}{cl:List (Str×Addr)}{N':List Str}{js:List Nat}{tt:TT}{te:TE}
end
theorem awH{prog:Program}{w:World}{A:Around}{R:Result->Shared->Prop}{s:Shared}{elt tg iter:Expr}{ifs:List Expr}{scope:Scope}{pos:Pos}{it acc:Value}{env:Env}{EN:Value->Shared->Prop}
  (hEN:EN=notedBy (model prog w) A env λe s'=>R (.error e) s') (B:Nat->Shared->Prop)
  (turn:∀n s,B n s->wpAny (model prog w) A (pyNext it) (λr s₁=>match r with
   |none=>R (.ok .next) s₁
   |some v=>wpAny (model prog w) A (letOwnedTupleGo tg it v) (λ_ s₂=>wpAny (model prog w) A (assign tg env v) (λ_ s₃=>
     wpAny (model prog w) A (ayJ ifs env) (λok s₄=>
      if ok=true then wpAny (model prog w) A (eval elt env) (λz s₅=>wpAny (model prog w) A (call (.builtin "list.append") [acc,z]) (λ_ s₆=>∃m,m<n/\B m s₆) EN s₅) EN s₄
      else ∃m,m<n/\B m s₄) EN s₃) EN s₂) EN s₁) EN s) (n:Nat) (h:B n s):
  codeAny (model prog w) A (.compLoop (.ListComp elt [⟨tg,iter,ifs,0⟩] scope pos) 0 it acc env) R s:=by
 subst hEN;refine codeAny_loop rfl B (λn s hI=>?_) n h;refine wpAny_noted (m:=compTurn (.ListComp elt [⟨tg,iter,ifs,0⟩] scope pos) 0 it acc env) ?_;rw[compTurn_list];refine eP (wpAny_standAt (eP (eQ (turn n s hI) (λr s₁ h₁=>?_) λ_ _ z=>z)));cases r with
 |none=>exact fF h₁
 |some v=>
  refine eP (eQ h₁ (λ_ s₂ h₂=>?_) λ_ _ z=>z);refine eP (eQ h₂ (λ_ s₃ h₃=>?_) λ_ _ z=>z);refine eP (eQ h₃ (λok s₄ h₄=>?_) λ_ _ z=>z);cases ok with
  |false=>exact fF ⟨rfl,h₄⟩
  |true=>
   refine eP (eP (eQ h₄ (λz s₅ h₅=>?_) λ_ _ q=>q));exact eP (eQ h₅ (λ_ s₆ h₆=>fF (fF ⟨rfl,h₆⟩)) λ_ _ q=>q)
section
variable{X:Cx}{elt iter:Expr}{x:Str}{px pos:Pos}{ifs:List Expr}{scope:Scope}{cl:List (Str×Addr)}{N':List Str}{js:List Nat}{tt:TT}{te:TE}
end
theorem ag7(env:Env):∀(names:List (Str×NameKind)) (acc:List (Str×Addr)),names.all (λy=>y.2 != .free||(env.cells.lookup y.1).isSome)=true->
  ∃cl:List (Str×Addr),(forIn (m:=Sem) names acc λx r=>(do
   let (name,kind):=x
   if kind== .free then do let c ←cellOf env name;pure (ForInStep.yield ((name,c)::r)) else pure (ForInStep.yield r)))=(pure cl:Sem _)/\
   (∀y c,cl.lookup y=some c->env.cells.lookup y=some c∨acc.lookup y=some c)/\(∀y,(∃c,acc.lookup y=some c)->∃c,cl.lookup y=some c)/\(∀y,(y,NameKind.free)∈names->∃c,cl.lookup y=some c)
 |[],acc,_=>⟨acc,rfl,λ_ _ h=>.inr h,λ_ h=>h,λ_ h=>nomatch h⟩
 |(n,k)::r,acc,h=>by
  rw[List.all_cons,bH] at h;by_cases hk:k=.free
  ·subst hk;have h1:(env.cells.lookup n).isSome=true:=by simpa using h.1
   obtain⟨c,hc⟩:=dP.mp h1;obtain⟨cl,e,p1,p2,p3⟩:=ag7 env r ((n,c)::acc) h.2;refine⟨cl,?_,λy c' hy=>?_,λy hy=>?_,λy hy=>?_⟩
   ·rw[←e];have q:cellOf env n=(pure c:Sem Addr):=by unfold cellOf;rw[hc]
    rw[List.forIn_cons];dsimp only;rw[if_pos (show (NameKind.free==NameKind.free)=true from rfl),q];rfl
   ·rcases p1 y c' hy with z | z
    ·exact .inl z
    ·rw[dR] at z;cases hyn:y==n with
     |true=>
      rw[hyn] at z;have e1:y=n:=by simpa using hyn
      have e2:c=c':=by simpa using z
      rw[e1,←e2];exact .inl hc
     |false=>
      rw[hyn] at z;exact .inr z
   ·refine p2 y ?_;rw[dR];cases hyn:y==n with
    |true=>exact⟨c,rfl⟩
    |false=>exact hy
   ·rcases aX.mp hy with z | z
    ·refine p2 y ⟨c,?_⟩;have e1:y=n:=(Prod.mk.inj z).1;rw[e1,dR];simp
    ·exact p3 y z
  ·obtain⟨cl,e,p1,p2,p3⟩:=ag7 env r acc h.2;have hk':(k==NameKind.free)=false:=by simpa using hk
   refine⟨cl,?_,p1,p2,λy hy=>?_⟩
   ·rw[←e];rw[List.forIn_cons];dsimp only;rw[if_neg (by rw[hk'];exact a8)];rfl
   ·rcases aX.mp hy with z | z
    ·exact absurd (Prod.mk.inj z).2.symm hk
    ·exact p3 y z
theorem arR{X:Cx}{scope:Scope}(h:scope.names.all (λy=>y.2 != .free||(X.env.cells.lookup y.1).isSome)=true)(h2:scope.names.all (λy=>y.2 != .cell)=true)(h3:scope.kind=.function)
  (h4:scope.names.all (λy=>y.2 != .local||scope.names.lookup y.1==some .local)=true):∃cl,Clos X scope cl:=by
 obtain⟨cl,e,p1,p2,p3⟩:=ag7 X.env scope.names [] h;refine⟨cl,?_,λy c hy=>?_,λy hy=>p3 y (PySem.mem_of_lookup hy),λy hy=>by simpa using bV.mp h2 y hy,h3,λy hy hl=>?_⟩
 ·unfold closureFor;exact Eq.trans (congrArg (λt:Sem (List (Str×Addr))=>t >>=λr=>(pure r:Sem (List (Str×Addr)))) e) rfl
 ·rcases p1 y c hy with z | z
  ·exact z
  ·simp at z
 ·have q:=bV.mp h4 y hy;simpa [hl] using q
section
variable{js:List Nat}{σ:St}{tt:TT}{te:TE}{Q:VK}{H1:Hp}
theorem adE{lo:Int}{n:Nat}(R:Nat->List V->Prop)(hn:n<=sizeLine)(h0:R 0 [])
  (hs:∀(i:Nat) (l:List V) (D:Addr) (H2:Hp) (E:V->Hp->Prop) (F:Hp->Prop),i<n->R i l->H1 D=none->Same H1 H2->H2 D=some (.lst l)->(∀y H5,Same H2 H5->R (i+1) (l++[y])->E y H5)->(∀H4,Same H2 H4->R (i+1) l->F H4)->
   tt (some (.int (lo+i))::ab1 js σ) H2 λb H4=>if b=true then te (some (.int (lo+i))::ab1 js σ) H4 E else F H4)
  (hd:∀(D:Addr) (H2:Hp) (l:List V),R n l->H1 D=none->Same H1 H2->H2 D=some (.lst l)->Q (.ref D) H2):as1 (Itr lo n) js σ tt te Q H1:=by
 intro D hD;refine⟨λi m H2=>m=n-i/\i<=n/\Same H1 H2/\∃l,H2 D=some (.lst l)/\l.length<=i/\R i l,⟨n,by simp,bM _,aaB hD _,[],aaA,aQ _,h0⟩,?_⟩;rintro i m H2 ⟨rfl,hi,s2,l,h2,hll,hR⟩;by_cases hlt:i<n
 ·refine .inr ⟨hlt,λv H3 y=>?_⟩;obtain⟨e,ev⟩:=y;subst e ev;refine hs i l D _ _ _ hlt hR hD s2 h2 (λz H5 s5 r5=>?_) (λH4 s4 r4=>?_)
  ·refine⟨l,s5 _ _ h2,d9 hll (bA hlt hn),n-(i+1),⋯,rfl,hlt,λb o hb=>?_,l++[z],aaA,by rw[aY,bX];omega,r5⟩;rw[aaD (aaJ hb hD)];exact s5 _ _ (s2 _ _ hb)
  ·exact⟨n-(i+1),⋯,rfl,hlt,s2.trans s4,l,s4 _ _ h2,⋯,r4⟩
 ·have e:i=n:=⋯;subst e;exact .inl ⟨aQ _,hd D H2 l hR hD s2 h2⟩
end
structure E(X:Cx)(e:Expr)(t:TE):Prop where
 h:PE X e t
structure T(X:Cx)(e:Expr)(t:TT):Prop where
 h:PT X e t
structure TW(X:Cx)(e:Expr)(t:TT):Prop where
 h:PW X e t
structure As(X:Cx)(es:List Expr)(t:TA):Prop where
 h:PA X es t
structure S(X:Cx)(st:Stmt)(t:TS):Prop where
 h:PS X st t
structure Ss(X:Cx)(sts:List Stmt)(t:TS):Prop where
 h:PSs X sts t
structure Il(X:Cx)(tg iter:Expr)(wi:TI):Prop where
 h:PI X tg iter wi
structure Gt(X:Cx)(tg:Expr)(t:TG):Prop where
 h:PG X tg t
structure Gts(X:Cx)(ts:List Expr)(t:TGs):Prop where
 h:PGs X ts t
structure Fs(X:Cx)(ifs:List Expr)(t:TT):Prop where
 h:PF X ifs t
structure Op2(X:Cx)(f:Value->Value->Sem Value)(r:R2):Prop where
 h:OpR X f r
structure Op1(X:Cx)(f:Value->Sem Value)(r:V->Hp->VK->Prop):Prop where
 h:UnR X f r
structure Cl1(X:Cx)(f:Value)(r:List V->Hp->VK->Prop):Prop where
 h:ad0 X f r
structure Ixs(X:Cx)(r:R2):Prop where
 h:IxR X r
section
variable{X:Cx}{a b c e:Expr}{pos p:Pos}{ta tb tc te:TE}{t u:TT}{rest es:List Expr}{tA:TA}{op op':CmpOp}{r r':R2}{x:Str}
theorem v_(i:Nat)(hN:X.N[i]? =some x:=by rfl)(hv:Vis X.env.scope x:=by first | exact Or.inl rfl | exact Or.inr (Or.inl rfl) | exact Or.inr (Or.inr rfl))(hd:(x==("__debug__":Str))=false:=by decide)(hcd:(x==("__classdict__":Str))=false:=by decide):
  E X (.Name x pos) (aF7 i):=⟨aIL hN hv hd hcd⟩
theorem eI{i j}:E X (.Constant (.int i) j pos) (tC (.int i)):=⟨aC3⟩
theorem eB{k j}:E X (.Constant (.bool k) j pos) (tC (.bl k)):=⟨aPV⟩
theorem eN{j}:E X (.Constant .none j pos) (tC .non):=⟨aIG⟩
theorem eS{z j}:E X (.Constant (.str z) j pos) (tC (.str z)):=⟨aC6⟩
theorem eGl{v:V}{w':Value}(hm:X.mg x=some w')(q:RelV v w')(hg:Gl X x:=by rfl)(hd:(x==("__debug__":Str))=false:=by decide):E X (.Name x pos) (tC v):=⟨aF9 hg hm q hd⟩
theorem eTy{n:String}(hm:X.mg x=none)(hv:bootBuiltins x=some (.type n))(hg:Gl X x:=by rfl)(hn:x≠"__name__":=by decide)(hd:(x==("__debug__":Str))=false:=by decide):E X (.Name x pos) (tC (.ty n)):=⟨aGK hg hm hv rfl hn hd⟩
theorem eOp{o:Operator}(ho:Op2 X (binaryOp o) r)(ha:E X a ta)(hb:E X b tb):E X (.BinOp a o b pos) (tOp r ta tb):=⟨aT0 ho.h ha.h hb.h⟩
theorem eUn{o:UnaryOp}{r1:V->Hp->VK->Prop}(ho:Op1 X (unaryOp o) r1)(ha:E X a ta):E X (.UnaryOp o a pos) (tUn r1 ta):=⟨aPL ho.h ha.h⟩
theorem acD(ho:Op2 X (compareOp op) r)(ha:E X a ta)(hb:E X b tb)(hm:behindInMarks op b=false:=by first | exact aC7 _ | rfl):E X (.Compare a [op] [b] pos) (tOp r ta tb):=⟨aFA ho.h ha.h hb.h hm⟩
theorem eCh(ho:Op2 X (compareOp op) r)(ho':Op2 X (compareOp op') r')(ha:E X a ta)(hb:E X b tb)(hc:E X c tc)(hm:lastMarks [op,op'] [b,c]=false:=by with_unfolding_all rfl):E X (.Compare a [op,op'] [b,c] pos) (ar2 r r' ta tb tc):=⟨aCU ho.h ho'.h ha.h hb.h hc.h hm⟩
theorem tCh(ho:Op2 X (compareOp op) r)(ho':Op2 X (compareOp op') r')(ha:E X a ta)(hb:E X b tb)(hc:E X c tc)(hm:lastMarks [op,op'] [b,c]=false:=by with_unfolding_all rfl):T X (.Compare a [op,op'] [b,c] pos) (axJ (ar2 r r' ta tb tc)):=⟨aAX ho.h ho'.h ha.h hb.h hc.h hm⟩
theorem ae4{o}(ha:E X a ta):E X (.BoolOp o [a] pos) ta:=⟨aJV ha.h⟩
theorem ahO(ha:E X a ta)(hb:E X (.BoolOp .And (b::rest) pos) tb):E X (.BoolOp .And (a::b::rest) pos) (aHQ ta tb):=⟨aJR ha.h hb.h⟩
theorem eOr(ha:E X a ta)(hb:E X (.BoolOp .Or (b::rest) pos) tb):E X (.BoolOp .Or (a::b::rest) pos) (aOE ta tb):=⟨aNL ha.h hb.h⟩
theorem aNX(ha:E X a ta):E X (.UnaryOp .Not a pos) (aHK ta):=⟨aJB ha.h⟩
theorem eIf(hc:T X c t)(ha:E X a ta)(hb:E X b tb):E X (.IfExp c a b pos) (tIf t ta tb):=⟨aC4 hc.h ha.h hb.h⟩
theorem tCm(ho:Op2 X (compareOp op) r)(ha:E X a ta)(hb:E X b tb)(hm:behindInMarks op b=false:=by first | exact aC7 _ | rfl):T X (.Compare a [op] [b] pos) (axJ (tOp r ta tb)):=⟨aES ho.h ha.h hb.h hm⟩
theorem tNo(ha:T X a t):T X (.UnaryOp .Not a pos) (aRL t):=⟨aIF ha.h⟩
theorem tVa(ha:E X e te)(he:∀whole,isTrue e X.env whole=(do let v ←whole;standAt e.pos;holding [v] (truthy v)):=by intro _;rfl):T X e (L2.tB te):=⟨aKS ha.h he⟩
theorem aeM(ha:T X a t):TW X (.BoolOp .And [a] pos) t:=⟨aEY ha.h⟩
theorem ae9(ha:T X a t):TW X (.BoolOp .Or [a] pos) t:=⟨aIV ha.h⟩
theorem ajW(ha:T X a t)(hb:TW X (.BoolOp .And (b::rest) pos) u):TW X (.BoolOp .And (a::b::rest) pos) (aQP t u):=⟨aK4 ha.h hb.h⟩
theorem wOr(ha:T X a t)(hb:TW X (.BoolOp .Or (b::rest) pos) u):TW X (.BoolOp .Or (a::b::rest) pos) (tOr t u):=⟨aN4 ha.h hb.h⟩
theorem tW(ha:TW X e t):T X e t:=⟨ha.h.pt⟩
theorem aN:As X [] aiM:=⟨afL⟩
theorem aC(ha:E X e te)(hr:As X es tA)(hs:starEach (e::es) X.env=(false,eval e X.env)::starEach es X.env:=by rfl):As X (e::es) (acV te tA):=⟨adN ha.h hr.h hs⟩
theorem ar5(is:List Int)(h:es.map atQ=is.map some:=by rfl):As X es (aGY is):=⟨ax1 is h⟩
theorem abO(ha:As X es tA):E X (.List es pos) (aPD tA):=⟨aJN ha.h⟩
theorem abE{k}(ha:As X es tA):E X (.Tuple es k pos) (aQ8 tA):=⟨aKN ha.h⟩
theorem eIx(hr:Ixs X r)(ha:E X a ta)(hb:E X b tb)(hs:axN b:=by intro _ _;rfl):E X (.Subscript a b pos) (tOp r ta tb):=⟨aR7 hr.h ha.h hb.h hs⟩
theorem eD{k k':Nat}{ps:List Str}{sp:Sp}(D:Df X.prog X.w X.K X.mg X.base x k ps sp)(hr:Room k' X.A)(ha:As X (e::es) tA)(hk:k<=k':=by decide)(hg:Gl X x:=by rfl)
  (hdb:(x==("__debug__":Str))=false:=by decide) (he:starEach (e::es) X.env=(false,eval e X.env)::starEach es X.env:=by rfl) (hpl:(backTo pos (starEach es X.env)).any (·.1)=false:=by rfl):
  E X (.Call (.Name x p) (e::es) [] pos) (axO sp [] E0 tA):=⟨aDV D hr ha.h hk hg hdb he hpl⟩
theorem eCB{id:String}{rc:List V->Hp->VK->Prop}(hc:Cl1 X (.builtin id) rc)(hm:X.mg x=none)(hv:bootBuiltins x=some (.builtin id))(ha:As X (e::es) tA)(hg:Gl X x:=by rfl)(hn:x≠"__name__":=by decide)(hdb:(x==("__debug__":Str))=false:=by decide)
  (he:starEach (e::es) X.env=(false,eval e X.env)::starEach es X.env:=by rfl) (hpl:(backTo pos (starEach es X.env)).any (·.1)=false:=by rfl):E X (.Call (.Name x p) (e::es) [] pos) (tCB rc tA):=⟨aCT hc.h hg hm hv ha.h hn hdb he hpl⟩
theorem eCT{n:String}{rc:List V->Hp->VK->Prop}(hc:Cl1 X (.type n) rc)(hm:X.mg x=none)(hv:bootBuiltins x=some (.type n))(ha:As X (e::es) tA)(hg:Gl X x:=by rfl)(hn:x≠"__name__":=by decide)(hdb:(x==("__debug__":Str))=false:=by decide)
  (he:starEach (e::es) X.env=(false,eval e X.env)::starEach es X.env:=by rfl) (hpl:(backTo pos (starEach es X.env)).any (·.1)=false:=by rfl):E X (.Call (.Name x p) (e::es) [] pos) (tCB rc tA):=⟨azL hc.h hg hm hv ha.h hn hdb he hpl⟩
end
section
variable{X:Cx}
theorem aaM:Op2 X (binaryOp .Add) (rI0 λi j=>.int (i+j)):=⟨aIW⟩
theorem aa7:Op2 X (binaryOp .Sub) (rI0 λi j=>.int (i-j)):=⟨aH7⟩
theorem acL:Op2 X (binaryOp .Mult) (rI CMul λi j=>.int (i*j)):=⟨aIY⟩
theorem acM:Op2 X (binaryOp .FloorDiv) (rI aL0 λi j=>.int (i / j)):=⟨aEQ⟩
theorem abD:Op2 X (binaryOp .Mod) (rI (λ_ j=>0<j) λi j=>.int (i%j)):=⟨aI3⟩
theorem aAC:Op2 X (binaryOp .Pow) (rI aFU λi j=>.int (i^j.toNat)):=⟨aIA⟩
theorem an3:Op2 X (binaryOp .LShift) (rI aFU λi j=>.int (i*2^j.toNat)):=⟨aJO⟩
theorem aBV:Op2 X (binaryOp .RShift) (rI (λ_ j=>0<=j) λi j=>.int (i / 2^j.toNat)):=⟨aII⟩
theorem aDT:Op2 X (binaryOp .BitAnd) (rI0 λi j=>.int (Builtin.bitAnd i j)):=⟨aID⟩
theorem oOr:Op2 X (binaryOp .BitOr) (rI0 λi j=>.int (Builtin.bitOr i j)):=⟨aMJ⟩
theorem aD4:Op2 X (binaryOp .Add) aOF:=⟨aH2⟩
theorem oEq:Op2 X (compareOp .Eq) rEq:=⟨aND⟩
theorem oNe:Op2 X (compareOp .NotEq) rNe:=⟨aO5⟩
theorem oLt:Op2 X (compareOp .Lt) (rI0 λi j=>.bl (decide (i<j))):=⟨aOR⟩
theorem oLe:Op2 X (compareOp .LtE) (rI0 λi j=>.bl (decide (i<=j))):=⟨aT3⟩
theorem oGt:Op2 X (compareOp .Gt) (rI0 λi j=>.bl (decide (j<i))):=⟨aQ5⟩
theorem oGe:Op2 X (compareOp .GtE) (rI0 λi j=>.bl (decide (j<=i))):=⟨aOW⟩
theorem xL:Ixs X (aKY X.K):=⟨aFL⟩
theorem xT:Ixs X (aJI X.K):=⟨aJ2⟩
theorem cLen:Cl1 X (.builtin "len") (λxs H Q=>∃p ys,xs=[.ref p]/\(SqL X.K H p ys∨SqT X.K H p ys)/\Q (.int ys.length) H):=⟨aq1⟩
theorem aNB:Cl1 X (.builtin "abs") (λxs H Q=>∃i,xs=[.int i]/\Q (.int (if i<0 then -i else i)) H):=⟨aAU⟩
theorem aT5(hc:X.calm=true:=by rfl):Cl1 X (.builtin "max") (λxs H Q=>∃i j,xs=[.int i,.int j]/\Q (.int (if j>i then j else i)) H):=⟨az8 hc⟩
theorem cMin(hc:X.calm=true:=by rfl):Cl1 X (.builtin "min") (λxs H Q=>∃i j,xs=[.int i,.int j]/\Q (.int (if j<i then j else i)) H):=⟨aAA hc⟩
theorem aK9:Cl1 X (.type "int") (λxs H Q=>(∃i,xs=[.int i]/\Q (.int i) H)∨∃k,xs=[.bl k]/\Q (.int (if k then 1 else 0)) H):=⟨azZ⟩
theorem cII:Cl1 X (.builtin "isinstance") (λxs H Q=>∃i:Int,xs=[.int i,.ty "int"]/\Q (.bl true) H):=⟨awN⟩
theorem cIB:Cl1 X (.builtin "isinstance") (λxs H Q=>∃i:Int,xs=[.int i,.ty "bool"]/\Q (.bl false) H):=⟨awS⟩
variable{e c iter tg:Expr}{te:TE}{tt:TT}{tA:TA}{wi:TI}{g:TG}{t u tb:TS}{st:Stmt}{rest body ba bb:List Stmt}{pos pos' p:Pos}{x:Str}{a1 a2:Expr}
theorem ssN:Ss X [] aHA:=⟨aGB⟩
theorem ssC(h1:S X st t)(h2:Ss X rest u):Ss X (st::rest) (aF6 t u):=⟨aDO h1.h h2.h⟩
theorem ss1(h1:S X st t):Ss X [st] t:=⟨aFB h1.h⟩
theorem arC:S X st aBB:=⟨aB2⟩
theorem aaH(he:E X e te):S X (.Return (some e) pos) (aUB te):=⟨aJL he.h⟩
theorem sIf(hc:T X c tt)(ha:Ss X ba t)(hb:Ss X bb u):S X (.If c ba bb pos) (aU4 tt t u):=⟨aUJ hc.h ha.h hb.h⟩
theorem an1(he:E X e te)(hs:swapsWith e none pos.line X.env=pure false:=by rfl):S X (.Expr e pos) (aHU te):=⟨aEP he.h hs⟩
theorem aaI(i:Nat)(he:E X e te)(hN:X.N.Nodup)(hi:X.N[i]? =some x:=by rfl)(hx:Loc X.env.scope x:=by first | exact Or.inl rfl | exact Or.inr rfl)(hs:swapsWith e (some (.Name x pos')) pos.line X.env=pure false:=by rfl)
  (hf:X.fn x=true∨X.env.scope.names.lookup x=some .local:=by first | exact .inl rfl | exact .inr rfl):S X (.Assign [.Name x pos'] e pos) (ayR te (ab8 i)):=⟨aJ9 hN hi hx he.h hs hf⟩
theorem gN(i:Nat)(hN:X.N.Nodup)(hi:X.N[i]? =some x:=by rfl)(hx:Loc X.env.scope x:=by first | exact Or.inl rfl | exact Or.inr rfl)(hf:X.fn x=true∨X.env.scope.names.lookup x=some .local:=by first | exact .inl rfl | exact .inr rfl):Gt X (.Name x pos) (ab8 i):=⟨axK hN hi hx hf⟩
theorem acZ(hi:Il X tg iter wi)(hg:Gt X tg g)(hb:Ss X body tb)(hp:PassesOwn (model X.prog X.w) X.A X.env X.xe)(hc:X.calm=true:=by rfl)(hs:∀x,foldedSetIterable iter X.env x=pure x:=by intro _;rfl):S X (.For tg iter body [] pos) (aMW wi g tb):=⟨aH4 hp hc hi.h hg.h hb.h hs⟩
theorem sWh(hc:T X c tt)(hb:Ss X body tb)(hp:PassesOwn (model X.prog X.w) X.A X.env X.xe):S X (.While c body [] pos) (avG tt tb):=⟨aBS hp hc.h hb.h⟩
theorem iL(hl:E X e te):Il X tg e (aCE X.K te):=⟨aFV hl.h⟩
theorem iT(hl:E X e te):Il X tg e (aL8 X.K te):=⟨aI8 hl.h⟩
theorem iR1(hm:X.mg "range"=none)(ha:As X [a1] tA)(hg:Gl X "range":=by rfl)(hs:starEach [a1] X.env=[(false,eval a1 X.env)]:=by rfl):Il X tg (.Call (.Name "range" p) [a1] [] pos) (aGZ tA):=⟨ayQ hg hm ha.h hs⟩
theorem iR2(hm:X.mg "range"=none)(ha:As X [a1,a2] tA)(hg:Gl X "range":=by rfl)(hs:starEach [a1,a2] X.env=[(false,eval a1 X.env),(false,eval a2 X.env)]:=by rfl)(hs2:starEach [a2] X.env=[(false,eval a2 X.env)]:=by rfl):
  Il X tg (.Call (.Name "range" p) [a1,a2] [] pos) (aHX tA):=⟨ay9 hg hm ha.h hs hs2⟩
end
def Go(P:Program)(w:World)(K:FG)(mg:Str->Option Value)(base:Heap)(N:List Str)(x:Str)(st:Stmt)(f:Addr)(cdv:Value)(A:Around)(outer:List Env)(s:Shared)(H:Hp)(vs:List V)(Q:VK)(E:XK):Prop:=
 ∃t,Ss (asC CX0 P w K mg base N x (aaC st) f cdv A outer s H E).nox (aaX st) t/\t {nx:=λ_ H'=>Q .non H',rt:=Q} (start N vs) H
section
variable{P:Program}{w:World}{K:FG}{mg:Str->Option Value}{base:Heap}{x:Str}{st:Stmt}{ps N:List Str}{k:Nat}{sp:Sp}
theorem Fn.dfs(F:Fn K mg x st ps)(S':FnScope N ps (aaC st))(len:∀vs H Q E,sp vs H Q E->vs.length=ps.length)
  (hbody:∀(f:Addr) (cdv:Value) (A:Around) (outer:List Env) (s:Shared) (H:Hp) (vs:List V) (Q:VK) (E:XK),Room k (A.deeper (envOfC x (aaC st) s.heap.objs.size f cdv))->sp vs H Q E->
   Go P w K mg base N x st f cdv A outer s H vs Q E):Df P w K mg base x (k+1) ps sp:=
 F.df S' len λf cdv A outer s H vs Q E hr h=>by
  obtain⟨t,h1,h2⟩:=hbody f cdv A outer s H vs Q E hr h;exact⟨t,h1.h,h2⟩
theorem Fun.oks{f:Addr}{fd:FuncData}(F:Fun K x x st f fd)(S':FnScope N ps (aaC st))(len:∀vs H Q E,sp vs H Q E->vs.length=ps.length)
  (hbody:∀(cdv:Value) (A:Around) (outer:List Env) (s:Shared) (H:Hp) (vs:List V) (Q:VK) (E:XK),Room k (A.deeper (envOfC x (aaC st) s.heap.objs.size f cdv))->sp vs H Q E->
   Go P w K mg base N x st f cdv A outer s H vs Q E):FnOk P w K mg base CX0 (k+1) f fd ps sp:=
 F.ok S' len λcdv A outer s H vs Q E hr h=>by
  obtain⟨t,h1,h2⟩:=hbody cdv A outer s H vs Q E hr h;exact⟨t,h1.h,h2⟩
end
end L2
namespace L2
open PySem PySem.Spec PyProof.Rows PySem.SeqAt
theorem ad7:∀{is:List Int} {us:List Value},Vals (is.map V.int) us->IntsAre us is
 |[],_,.nil=>.nil
 |_::_,_,.cons ⟨_,rfl⟩ r=>.cons _ _ (ad7 r)
section
variable{X:Cx}
theorem azC(hc:X.calm=true):ad0 X (.builtin "sum") (λxs H Q=>∃(p:Addr) (is:List Int),xs=[.ref p]/\SqL X.K H p (is.map V.int)/\Q (.int is.sum) H):=by
 intro pins s σ H xs us Q I r h;obtain⟨p,is,rfl,hq,q⟩:=h;obtain⟨u,rfl,r1⟩:=acC r;cases r1;obtain⟨its,rv,pl,hz⟩:=I.list hq;have hi:=ad7 rv;obtain⟨ys,hy⟩:=hi.allInts.items;have hl:s.heap.IsList p (intItems ys):=by rw[←hy];exact pl.isList
 refine sum_intListG (I.ok.hd hc) hl λh' tk t' hk=>?_;have e1:is=ys.toList.map (·.1):=by
  rw[←nums_intItems,←hy];exact hi.numsOf.symm
 have e2:preSum (numAt ys) ys.size=is.sum:=by
  rw[preSum_eq,eC (by simp),e1]
 rw[e2];exact⟨.int is.sum,H,I.kept hk,⟨()⟩,q⟩
variable{elt iter:Expr}{x y:Str}{px py pos spos:Pos}{ifs:List Expr}{scope:Scope}{wi:TI}{tt:TT}{te:TE}
theorem fsN:Fs X [] aPA:=⟨aI1⟩
theorem fs1{c:Expr}(h:T X c tt):Fs X [c] tt:=⟨aKA h.h⟩
theorem cSum(hc:X.calm=true:=by rfl):Cl1 X (.builtin "sum") (λxs H Q=>∃(p:Addr) (is:List Int),xs=[.ref p]/\SqL X.K H p (is.map V.int)/\Q (.int is.sum) H):=⟨azC hc⟩
theorem gTu{es:List Expr}{k n:Nat}{t:TGs}(h:Gts X es t)(hc:X.calm=true:=by rfl)(hn:(assignEach es X.env).length=n:=by rfl)(hst:(assignEach es X.env).findIdx? (·.1)=none:=by rfl):Gt X (.Tuple es k pos) (aF5 X.K n t):=⟨aKR hc h.h hn hst⟩
theorem gsN:Gts X [] aJ0:=⟨aEM⟩
theorem gsC{e:Expr}{es:List Expr}{t:TG}{u:TGs}(h1:Gt X e t)(h2:Gts X es u)(hs:(assignEach (e::es) X.env).map (·.2)=assign e X.env::(assignEach es X.env).map (·.2):=by rfl):Gts X (e::es) (ayC t u):=⟨aCG h1.h h2.h hs⟩
theorem akX{tg e:Expr}{g:TG}(he:E X e te)(hg:Gt X tg g)(hs:swapsWithSole [tg] e pos.line X.env=pure false:=by rfl)(hw:swappedStores [tg] e X.env=pure none:=by rfl)
  (h1:(assignEach [tg] X.env).map (·.2)=[assign tg X.env]:=by rfl):S X (.Assign [tg] e pos) (ayR te g):=⟨aJ1 he.h hg.h hs hw h1⟩
end
section
variable{js:List Nat}{σ:St}{tt:TT}{te:TE}{Q:VK}{H1:Hp}
theorem aoM{K:FG}{a:Addr}{xs:List V}(R:Nat->List V->Prop)(hn:xs.length<=sizeLine)(h0:R 0 [])(hq:SqL K H1 a xs)
  (hs:∀(i:Nat) (v:V) (l:List V) (D:Addr) (H2:Hp) (E:V->Hp->Prop) (F:Hp->Prop),xs[i]? =some v->R i l->H1 D=none->Same H1 H2->H2 D=some (.lst l)->(∀y H5,Same H2 H5->R (i+1) (l++[y])->E y H5)->(∀H4,Same H2 H4->R (i+1) l->F H4)->
   tt (some v::ab1 js σ) H2 λb H4=>if b=true then te (some v::ab1 js σ) H4 E else F H4)
  (hd:∀(D:Addr) (H2:Hp) (l:List V),R xs.length l->H1 D=none->Same H1 H2->H2 D=some (.lst l)->Q (.ref D) H2):as1 (Itl K a) js σ tt te Q H1:=by
 intro D hD;refine⟨λi m H2=>m=xs.length-i/\i<=xs.length/\Same H1 H2/\∃l,H2 D=some (.lst l)/\l.length<=i/\R i l,⟨xs.length,by simp,bM _,aaB hD _,[],aaA,aQ _,h0⟩,?_⟩;rintro i m H2 ⟨rfl,hi,s2,l,h2,hll,hR⟩;by_cases hlt:i<xs.length
 ·refine .inr ⟨⟨xs,xs[i],s2.seq hq,by simp[hlt]⟩,λv H3 y=>?_⟩;obtain⟨e,ev⟩:=y;subst e;have hv:=ev xs (s2.seq hq);refine hs i v l D _ _ _ hv hR hD s2 h2 (λz H5 s5 r5=>?_) (λH4 s4 r4=>?_)
  ·refine⟨l,s5 _ _ h2,d9 hll (bA hlt hn),xs.length-(i+1),⋯,rfl,hlt,λb o hb=>?_,l++[z],aaA,by rw[aY,bX];omega,r5⟩;rw[aaD (aaJ hb hD)];exact s5 _ _ (s2 _ _ hb)
  ·exact⟨xs.length-(i+1),⋯,rfl,hlt,s2.trans s4,l,s4 _ _ h2,⋯,r4⟩
 ·have e:i=xs.length:=⋯;subst e;exact .inl ⟨⟨xs,s2.seq hq,aQ _⟩,hd D H2 l hR hD s2 h2⟩
def IntsR(i:Nat)(l:List V):Prop:=∃zs:List Int,l=zs.map V.int/\zs.length<=i
theorem IntsR.nil:IntsR 0 []:=⟨[],rfl,aQ _⟩
theorem IntsR.one{i:Nat}{l:List V}(h:IntsR i l)(z:Int):IntsR (i+1) (l++[.int z]):=by
 obtain⟨zs,rfl,hl⟩:=h;exact⟨zs++[z],by rw[bB];rfl,by rw[aY,bX];omega⟩
theorem Same.tup{K:FG}{H H':Hp}{a:Addr}{xs:List V}(e:Same H H')(h:SqT K H a xs):SqT K H' a xs:=by
 rcases h with (h | ⟨o,h⟩) | h
 ·exact .inl (.inl (e _ _ h))
 ·exact .inl (.inr ⟨o,e _ _ h⟩)
 ·exact .inr h
theorem ao8{α:Type}(f:Nat->α)(n:Nat):(List.range (n+1)).map f=(List.range n).map f++[f n]:=by rw[List.range_succ,bB];rfl
theorem acG{c:TT}{tb:TS}{D:Ends}{σ:St}{H:Hp}(Pv:St->Hp->Prop)(μ:St->Hp->Nat)(h0:Pv σ H)
  (hs:∀σ H,Pv σ H->c σ H λb H1=>if b=true then ∃N:St->Hp->Prop,(∀σ' H',N σ' H'->∃m',m'<μ σ H/\m'=μ σ' H'/\Pv σ' H')/\tb {D with nx:=N,ct:=N,bk:=D.nx} σ H1 else D.nx σ H1):avG c tb D σ H:=
 ⟨λm σ H=>m=μ σ H/\Pv σ H,⟨(),h0⟩,by
  rintro m σ H ⟨rfl,p⟩;exact hs σ H p⟩
theorem asK{X:Cx}:Op1 X (unaryOp .USub) (rU λi=>.int (-i)):=⟨aH8⟩
end
section
variable{prog:Program}{w:World}{A:Around}{E:Value->Shared->Prop}{s:Shared}
theorem aHM{it l:Addr}{its:Array Value}(hne:l≠it):∀(n i:Nat) (s:Shared) (Q:List Value->Shared->Prop),s.heap.IsListIter it l i->s.heap.IsList l its->i+n<=its.size->
  (∀h',h'.IsListIter it l (i+n)->Heap.SameBut it s.heap h'->Q ((its.toList.drop i).take n) {s with heap:=h'})->wpAny (model prog w) A (draw (.ref it) n) Q E s
 |0,i,s,Q,hit,_,_,hQ=>by
  have z:wpAny (model prog w) A (pure ([]:List Value)) Q E s:=fF (by simpa using hQ s.heap hit (Heap.SameBut.refl ..));exact z
 |n+1,i,s,Q,hit,hl,hle,hQ=>by
  have hi:i<its.size:=⋯;have z:wpAny (model prog w) A (pyNext (.ref it)) (λr s₁=>wpAny (model prog w) A (match r with | none=>pure [] | some v=>(do let rest ←holding [v] (draw (.ref it) n);pure (v::rest))) Q E s₁) E s:=by
   refine wpAny_pyNext_list_item hit hl (x:=its[i]) (by simp[hi]) λh₁ hit₁ hs₁=>?_;refine eP (eV (aHM hne n (i+1) _ _ hit₁ (hl.extBut hs₁.extBut hne) ⋯ λh₂ hit₂ hs₂=>fF ?_));have hd:its.toList.drop i=its[i]::its.toList.drop (i+1):=by simp[List.drop_eq_getElem_cons,hi]
   have e:i+(n+1)=i+1+n:=⋯;have q:=hQ h₂ (by rw[e];exact hit₂) (hs₁.trans hs₂);rw[hd,List.take_succ_cons] at q;exact q
  exact eP z
theorem aGS{l:Addr}{its:Array Value}{Q:List Value->Shared->Prop}(hh:A.handled=none)(hl:s.heap.IsList l its)(hQ:∀h',Heap.ExtBut s.heap.objs.size s.heap h'->Q its.toList {s with heap:=h'}):
  wpAny (model prog w) A (unpackItems (.ref l) its.size none) Q E s:=by
 have hne:l≠s.heap.objs.size:=by
  obtain⟨o,ho,_⟩:=hl;exact aW (aV ho)
 unfold unpackItems;refine eP ?_;unfold notIterableAtAll;refine eP (wpAny_specialOf hl.typeIs slot_list_iter.lookup (fF ?_));simp only[Bool.false_eq_true,if_false];refine eP (eV (wpAny_pyIter_list hl (eP (eV (aHM hne its.size 0 _ _ ⟨_,a9 _ rfl,rfl,rfl⟩ (hl.push _) ⋯ λh₁ hit₁ hs₁=>?_)))));have all:List.take its.size (List.drop 0 its.toList)=its.toList:=by
  rw[List.drop_zero];exact eC (by simp)
 rw[all,if_neg (by simp)];have hl₁:h₁.IsList l its:=(hl.push _).extBut hs₁.extBut hne;refine eP (eV (wpAny_pyNext_list_end hh hit₁ hl₁ (by simp) λh₂ he₂=>?_));simp only[Option.isSome_none,Bool.false_eq_true,if_false];exact fF (hQ h₂ λb o hb e=>he₂ b o hb (hs₁.extBut b o hb (aU _ e)))
end
def aTX(K:FG)(n:Nat)(t:TGs):TG:=λv σ H Q=>∃a xs,v=.ref a/\SqL K H a xs/\xs.length=n/\t xs σ H Q
section
variable{X:Cx}{pos:Pos}
theorem aKV{es:List Expr}{k n:Nat}{t:TGs}(h:Gts X es t)(hc:X.calm=true:=by rfl)(hn:(assignEach es X.env).length=n:=by rfl)(hst:(assignEach es X.env).findIdx? (·.1)=none:=by rfl):Gt X (.Tuple es k pos) (aTX X.K n t):=by
 refine⟨λpins s σ H v u Q I r hw=>?_⟩;obtain⟨a,xs,e1,hq,hl,hw⟩:=hw;subst e1;cases r;obtain⟨its,rv,pl,hz⟩:=I.list hq;rw[assign_Tuple];refine eP (wpAny_standAt ?_);unfold unpack;have e2:(assignEach es X.env).length=its.toArray.size:=by rw[hn,←hl,rv.length,bI]
 rw[e2,hst];refine eP (eV (aGS (I.ok.hd hc) pl.isList λh' hx=>?_));have I1:Inv X pins σ H {s with heap:=h'}:=I.kept (t':=s.toks) λb o e=>hx b o (aW (aV e)) e;exact h.h pins _ σ H xs _ Q I1 (by simpa using rv) hw
theorem aqS{o e:Expr}{to te:TE}{apos cpos:Pos}(ho:E X o to)(he:E X e te)(hbase:attributeBase o "append" X.env (eval o X.env)=eval o X.env:=by rfl)
  (hfew:((backTo cpos (starEach [e] X.env)).all (λx=> !x.1)&&(backToKw cpos (keywordEach [] X.env)).all (λx=>x.1.isSome)&&decide (([e]:List Expr).length+([]:List Keyword).length+(if ([]:List Keyword).isEmpty then 0 else 1)<30))=true:=by rfl)
  (hline:(apos.endLine==cpos.line)=true:=by rfl) (hs:starEach [e] X.env=(false,eval e X.env)::starEach [] X.env:=by rfl) (hplain:(backTo cpos (starEach [] X.env)).any (·.1)=false:=by rfl):
  E X (.Call (.Attribute o "append" apos) [e] [] cpos) (tBM X.K "list" axL to (acV te aiM)):=
 ⟨asR PySem.F.plainAttrs_list PySem.F.slot_list_append PySem.F.type_list_append aoL ho.h (adN he.h afL hs) hbase hfew hline hs hplain⟩
variable{js:List Nat}{σ:St}{tt:TT}{te:TE}{Q:VK}{H1:Hp}
end
def Digs(ds ss:List Int):Prop:=Paired (λd z:Int=>0<=d/\d<z) ds ss
theorem Digs.snoc{ds ss:List Int}{d z:Int}(h:Digs ds ss)(h0:0<=d)(h1:d<z):Digs (ds++[d]) (ss++[z]):=Paired.snoc h ⟨h0,h1⟩
theorem Digs.len{ds ss:List Int}(h:Digs ds ss):ds.length=ss.length:=Paired.length h
theorem Digs.four{ds:List Int}{a b c d:Int}(h:Digs ds [a,b,c,d]):∃x y z w:Int,ds=[x,y,z,w]/\(0<=x/\x<a)/\(0<=y/\y<b)/\(0<=z/\z<c)/\0<=w/\w<d:=by
 cases h with
 |cons h1 r=>cases r with | cons h2 r=>cases r with | cons h3 r=>cases r with | cons h4 r=>cases r;exact⟨_,_,_,(),h1,h2,h3,h4⟩
theorem ab6{H H2:Hp}{p:Addr}{o:HO}(hn:H p=none)(s:Same H H2):Same H (upd H2 p o):=λb u h=>by
 rw[aaD (aaJ h hn)];exact s b u h
theorem aNQ{a m b:Int}(h0:0<m)(h1:m<=18446744073709551616):CMul (a%m) b:=.inl ⟨Int.lt_of_lt_of_le (by decide) (cG a (Int.ne_of_gt h0)),Int.lt_of_lt_of_le (dF a h0) h1⟩
theorem aTG:(10:Int)^(18:Int).toNat=1000000000000000000:=by decide +kernel
theorem aAV:(10:Int)^(58:Int).toNat=10000000000000000000000000000000000000000000000000000000000:=by decide +kernel
structure FnM(K:FG)(C:Addr)(m qual:Str)(st:Stmt)(ps:List Str):Prop where
 ex:∃(f:Addr) (fd:FuncData),Fun K m qual st f fd/\Binds K fd ps []/\Meth K C m f
structure DfM(P:Program)(w:World)(K:FG)(mg:Str->Option Value)(base:Heap)(C:Addr)(m:Str)(k:Nat)(ps:List Str)(sp:Sp):Prop where
 ex:∃(f:Addr) (fd:FuncData),FnOk P w K mg base CX0 k f fd ps sp/\Binds K fd ps []/\Meth K C m f
structure Cd(K:FG)(mg:Str->Option Value)(x:Str)(C:Addr):Prop where
 at_:mg x=some (.ref C)
 cl:Cls K C
 makes:PySem.W.makesIn K C=true
 kp:PySem.W.keepIn K (.ref C)=true
section
variable{P:Program}{w:World}{K:FG}{mg:Str->Option Value}{base:Heap}{m qual:Str}{st:Stmt}{ps N:List Str}{k:Nat}{sp:Sp}{C:Addr}
theorem FnM.dfs(F:FnM K C m qual st ps)(S':FnScope N ps (aaC st))(len:∀vs H Q E,sp vs H Q E->vs.length=ps.length)
  (hbody:∀(f:Addr) (cdv:Value) (A:Around) (outer:List Env) (s:Shared) (H:Hp) (vs:List V) (Q:VK) (E:XK),Room k (A.deeper (envOfC qual (aaC st) s.heap.objs.size f cdv))->sp vs H Q E->
   Go P w K mg base N qual st f cdv A outer s H vs Q E):DfM P w K mg base C m (k+1) ps sp:=by
 obtain⟨f,fd,F1,hb,hm⟩:=F.ex;refine⟨⟨f,fd,F1.ok S' len λcdv A outer s H vs Q E hr h=>?_,hb,hm⟩⟩;obtain⟨t,h1,h2⟩:=hbody f cdv A outer s H vs Q E hr h;exact⟨t,h1.h,h2⟩
theorem abV{f:Addr}{oc:Value}{od an:Option Addr}{osl:Array (Option Value)}{kV doc pm cdv ct:Value}
  (a:PySem.W.findIn K (.ref C) m=some (some (.ref f))) (i:PySem.W.isFn K (.ref f)=true) (l:K.lookup f=some ⟨oc,od,.func (PySem.W.fnOf m qual (abC st) (aaX st) (aaC st) .none kV doc pm an cdv ct),osl⟩)
  (c:PySem.W.codeIn K cdv qual=true) (k:PySem.W.keepIn K (.ref f)=true)
  (hb:∀(kV doc pm:Value) (an:Option Addr) (cdv ct:Value) (us:List Value),us.length=ps.length->bindArgs (PySem.W.fnOf m qual (abC st) (aaX st) (aaC st) .none kV doc pm an cdv ct) ⟨us,[]⟩=pure (ps.zip us)):FnM K C m qual st ps:=by
 have F:=arK (st:=st) l c k;exact⟨⟨f,_,F,F.binds (ps:=ps) hb,⟨a,i,k⟩⟩⟩
variable{X:Cx}{x:Str}{k':Nat}{e o value:Expr}{es:List Expr}{ta tv:TE}{t:TA}{p pos apos pos':Pos}{f:Str}
theorem eMk(c:Cd X.K X.mg x C)(D:DfM X.prog X.w X.K X.mg X.base C "__init__" k ps sp)(hr:Room k' X.A)(ha:As X (e::es) t)(hk:k+1<=k':=by decide)(hg:Gl X x:=by rfl)(hdb:(x==("__debug__":Str))=false:=by decide)
  (he:starEach (e::es) X.env=(false,eval e X.env)::starEach es X.env:=by rfl) (hpl:(backTo pos (starEach es X.env)).any (·.1)=false:=by rfl):E X (.Call (.Name x p) (e::es) [] pos) (ax7 C sp [] E0 t):=by
 obtain⟨f,fd,F,hb,hm⟩:=D.ex;exact⟨aF3 ⟨c.makes,hm.at_,hm.fn,c.kp⟩ F (hr.mono hk) hg c.at_ hb .nil auV ha.h hdb he hpl⟩
theorem eMe{pl:Sem Bool}(c:Cls X.K C)(D:DfM X.prog X.w X.K X.mg X.base C m k ps sp)(hr:Room k' X.A)(ho:E X o ta)(ha:As X (e::es) t)(hk:k<=k':=by decide)
  (hst:starEach (e::es) X.env=(false,eval e X.env)::starEach es X.env:=by rfl) (hpl:(backTo pos (starEach es X.env)).any (·.1)=false:=by rfl)
  (ht:eval (.Call (.Attribute o m apos) (e::es) [] pos) X.env=(do
   let ov ←eval o X.env
   standAt apos.atName
   let (f,first) ←holding [ov] (getMethod ov m pl)
   callWith pos f first (backTo pos (starEach (e::es) X.env)) (backToKw pos (keywordEach [] X.env))):=by rfl):E X (.Call (.Attribute o m apos) (e::es) [] pos) (aB3 C m sp [] E0 ta t):=by
 obtain⟨f,fd,F,hb,hm⟩:=D.ex;exact⟨aE2 ho.h c hm F (hr.mono hk) hb .nil auV ha.h hst hpl ht⟩
theorem eFl(he:E X e ta)(hb:attributeBase e f X.env (eval e X.env)=eval e X.env:=by rfl):E X (.Attribute e f pos) (aH3 X.K ta f):=⟨aIZ he.h hb⟩
theorem sFl(ha:E X o ta)(hv:E X value tv)(hs:swapsWith value (some (.Attribute o f pos')) pos.line X.env=pure false:=by rfl):S X (.Assign [.Attribute o f pos'] value pos) (aR2 X.K ta tv f):=⟨aIB ha.h hv.h hs⟩
def tMkN(C:Addr):TE:=λ_ H Q=>∀x dx,H x=none->H dx=none->dx≠x->Q (.ref x) (upd (upd H dx (.own x)) x (.ins C dx []))
theorem eMkN(c:Cd X.K X.mg x C)(hi:PySem.W.findIn X.K (.ref C) "__init__"=some (some (.builtin "object.__init__")))(hg:Gl X x:=by rfl)(hdb:(x==("__debug__":Str))=false:=by decide):E X (.Call (.Name x p) [] [] pos) (tMkN C):=by
 refine⟨λpins s σ H Q I h=>?_⟩;refine fE (af7 I hg c.at_ ?_ hdb);refine PySem.W.callWith_K0 I.kIn c.kp (wpAny_call ?_);have hq:=h (s.heap.objs.size+1) s.heap.objs.size (I.hok.fresh (Nat.le_succ _)) (I.hok.fresh (aQ _)) (aW (dD _));have I2:=Inv.made (C:=C) I;have e2:((s.heap.push PySem.W.emptyDict).push (PySem.W.instObj C s.heap.objs.size)).get? (s.heap.objs.size+1)=some (PySem.W.instObj C s.heap.objs.size):=by
  have:=a9 (s.heap.push PySem.W.emptyDict) (o:=PySem.W.instObj C s.heap.objs.size) rfl
  rwa [c9] at this
 have Y:=PySem.W.makes_of (M:=model X.prog X.w) I.kIn c.makes;refine ayW I.kIn c.makes hi (λself=>PySem.W.Looks.of_pure (PySem.W.oi_bind self)) ?_;have t1:PySem.W.Looks (model X.prog X.w) ((s.heap.push PySem.W.emptyDict).push (PySem.W.instObj C s.heap.objs.size)) (typeOf (.ref (s.heap.objs.size+1))) (.ref C):=(PySem.W.Looks.ld e2).andThen .now;have t2:PySem.W.Looks (model X.prog X.w) ((s.heap.push PySem.W.emptyDict).push (PySem.W.instObj C s.heap.objs.size)) (isInstance (.ref (s.heap.objs.size+1)) (.type "object")) true:=t1.andThen (Y.top.keeps λb o q=>aU _ (aU _ q))
 refine codeAny_call_builtin PySem.W.oi_plain PySem.W.entry_oi (@PySem.W.check_slot (model X.prog X.w) _ _ _ "object.__init__" "object" "__init__" (.ref (s.heap.objs.size+1)) [] [] _ PySem.W.oi_kind PySem.W.oi_split t2 (PySem.W.oi_args (.ref (s.heap.objs.size+1))) ?_);rw[PySem.W.oi_run];exact fF (And.intro rfl ⟨V.ref (s.heap.objs.size+1),_,I2,rfl,hq⟩)
end
structure Po(X:Cx)(o:Option Expr)(t:TO):Prop where
 h:PO X o t
structure Sls(X:Cx)(r:V->Option Int->Option Int->Hp->VK->Prop):Prop where
 h:SlR X r
section
variable{X:Cx}{e:Expr}{te:TE}{lo hi:Option Expr}{tl th:TO}{pos p2:Pos}
theorem poN:Po X none aw2:=⟨aEU⟩
theorem poS(h:E X e te):Po X (some e) (aHB te):=⟨aEK h.h⟩
theorem slL:Sls X (aKI X.K):=⟨aFQ⟩
theorem eSl{r:V->Option Int->Option Int->Hp->VK->Prop}(hr:Sls X r)(he:E X e te)(hl:Po X lo tl)(hu:Po X hi th):E X (.Subscript e (.Slice lo hi none p2) pos) (tSl r te tl th):=⟨aAL hr.h he.h hl.h hu.h⟩
end
noncomputable def aMU(xs:List Int)(lo hi:Option Int):List Int:=(xs.drop (HT.sIx xs.length 0 lo)).take (HT.sIx xs.length xs.length hi-HT.sIx xs.length 0 lo)
structure FunD(K:FG)(x qual:Str)(st:Stmt)(f:Addr)(fd:FuncData):Prop where
 ex:∃(oc:Value) (od:Option Addr) (dV kV doc pm:Value) (an:Option Addr) (cdv ct:Value) (osl:Array (Option Value)),
  fd=PySem.W.fnOf x qual (abC st) (aaX st) (aaC st) dV kV doc pm an cdv ct/\K.lookup f=some ⟨oc,od,.func fd,osl⟩/\PySem.W.codeIn K cdv qual=true
 kp:PySem.W.keepIn K (.ref f)=true
structure FnMD(K:FG)(C:Addr)(m qual:Str)(st:Stmt)(ps:List Str)(dvs:List V):Prop where
 ex:∃(f:Addr) (fd:FuncData) (ds:List Value),FunD K m qual st f fd/\Binds K fd ps []/\Vals dvs ds/\Binds K fd ps ds/\Meth K C m f
structure DfMD(P:Program)(w:World)(K:FG)(mg:Str->Option Value)(base:Heap)(C:Addr)(m:Str)(k:Nat)(ps:List Str)(sp:Sp)(dvs:List V):Prop where
 ex:∃(f:Addr) (fd:FuncData) (ds:List Value),FnOk P w K mg base CX0 k f fd ps sp/\Binds K fd ps []/\Vals dvs ds/\Binds K fd ps ds/\Meth K C m f
section
variable{P:Program}{w:World}{K:FG}{mg:Str->Option Value}{base:Heap}{m qual:Str}{st:Stmt}{ps N:List Str}{k:Nat}{sp:Sp}{C:Addr}{dvs:List V}
theorem DfMD.dfm(D:DfMD P w K mg base C m k ps sp dvs):DfM P w K mg base C m k ps sp:=by
 obtain⟨f,fd,ds,a,b,_,_,e⟩:=D.ex;exact⟨⟨f,fd,a,b,e⟩⟩
theorem FnMD.dfs(F:FnMD K C m qual st ps dvs)(S':FnScope N ps (aaC st))(len:∀vs H Q E,sp vs H Q E->vs.length=ps.length)
  (hbody:∀(f:Addr) (cdv:Value) (A:Around) (outer:List Env) (s:Shared) (H:Hp) (vs:List V) (Q:VK) (E:XK),Room k (A.deeper (envOfC qual (aaC st) s.heap.objs.size f cdv))->sp vs H Q E->
   Go P w K mg base N qual st f cdv A outer s H vs Q E):DfMD P w K mg base C m (k+1) ps sp dvs:=by
 obtain⟨f,fd,ds,F1,hb,hv,hbd,hm⟩:=F.ex;refine⟨⟨f,fd,ds,?_,hb,hv,hbd,hm⟩⟩;obtain⟨oc,od,dV,kV,doc,pm,an,cdv,ct,osl,rfl,lk,hcd⟩:=F1.ex;refine aC5 lk hcd S' len λA outer s H vs Q E hr hsp=>?_;obtain⟨t,h,q⟩:=hbody f cdv A outer s H vs Q E hr hsp;exact⟨t,h.h.nox,q⟩
theorem aGU{f:Addr}{oc:Value}{od an:Option Addr}{osl:Array (Option Value)}{dV kV doc pm cdv ct:Value}{ds:List Value}
  (a:PySem.W.findIn K (.ref C) m=some (some (.ref f))) (i:PySem.W.isFn K (.ref f)=true) (l:K.lookup f=some ⟨oc,od,.func (PySem.W.fnOf m qual (abC st) (aaX st) (aaC st) dV kV doc pm an cdv ct),osl⟩)
  (c:PySem.W.codeIn K cdv qual=true) (k:PySem.W.keepIn K (.ref f)=true)
  (hb:Binds K (PySem.W.fnOf m qual (abC st) (aaX st) (aaC st) dV kV doc pm an cdv ct) ps []) (hv:Vals dvs ds) (hd:Binds K (PySem.W.fnOf m qual (abC st) (aaX st) (aaC st) dV kV doc pm an cdv ct) ps ds):FnMD K C m qual st ps dvs:=
 ⟨⟨f,_,ds,⟨⟨oc,od,dV,kV,doc,pm,an,cdv,ct,osl,rfl,l,c⟩,k⟩,hb,hv,hd,⟨a,i,k⟩⟩⟩
variable{X:Cx}{x:Str}{k':Nat}{p pos:Pos}
theorem eMkD(c:Cd X.K X.mg x C)(D:DfMD X.prog X.w X.K X.mg X.base C "__init__" k ps sp dvs)(hr:Room k' X.A)(hk:k+1<=k':=by decide)(hg:Gl X x:=by rfl)(hdb:(x==("__debug__":Str))=false:=by decide):
  E X (.Call (.Name x p) [] [] pos) (ax7 C sp dvs E0 aiM):=by
 obtain⟨f,fd,ds,F,_,hv,hb,hm⟩:=D.ex;exact⟨aBU ⟨c.makes,hm.at_,hm.fn,c.kp⟩ F (hr.mono hk) hg c.at_ hb hv auV hdb⟩
end
theorem am8{H:Hp}{xo dx:Addr}{a b:HO}(nx:H xo=none)(ndx:H dx=none):Same H (upd (upd H dx a) xo b):=λz u hb=>by
 rw[aaD (aaJ hb nx),aaD (aaJ hb ndx)];exact hb
theorem ac4{H:Hp}{xo dx:Addr}{a b c:HO}(nx:H xo=none)(ndx:H dx=none):Same H (upd (upd (upd H dx a) xo b) xo c):=λz u hb=>by
 rw[aaD (aaJ hb nx)];exact am8 nx ndx z u hb
theorem aDC{H:Hp}{xo dx:Addr}{a b c d:HO}(nx:H xo=none)(ndx:H dx=none):Same H (upd (upd (upd (upd H dx a) xo b) xo c) xo d):=λz u hb=>by
 rw[aaD (aaJ hb nx)];exact ac4 nx ndx z u hb
end L2
namespace L2
open PySem PyProof.Rows
noncomputable def aOB(p:Nat->Bool):Nat->Nat
 |0=>0
 |n+1=>aOB p n+(if p n=true then 2^n else 0)
@[irreducible] noncomputable def cnt(p:Nat->Bool)(n:Nat):Nat:=aOB p n
theorem anC(p:Nat->Bool):cnt p 0=0:=by rw[cnt];rfl
theorem amG(p:Nat->Bool)(n:Nat):cnt p (n+1)=cnt p n+(if p n=true then 2^n else 0):=by rw[cnt,cnt];rfl
theorem avU(p:Nat->Bool):∀n,cnt p n<2^n
 |0=>by rw[anC];decide
 |n+1=>by
  have h:=avU p n;rw[amG,Nat.pow_succ];split<;>omega
theorem axP(p:Nat->Bool):∀n i,(cnt p n).testBit i=(decide (i<n)&&p i)
 |0,i=>by rw[anC];simp
 |n+1,i=>by
  have h:=avU p n;have ih:=axP p n i;rw[amG];by_cases hp:p n=true
  ·rw[if_pos hp,Nat.add_comm];rcases Nat.lt_trichotomy i n with hi | hi | hi
   ·rw[Nat.testBit_two_pow_add_gt hi,ih];simp[hi,dA hi]
   ·subst hi;rw[Nat.testBit_two_pow_add_eq,ih];simp[hp]
   ·have h2:2^n+cnt p n<2^i:=bA (by rw[Nat.pow_succ];omega) (Nat.pow_le_pow_right (by decide) hi);rw[Nat.testBit_lt_two_pow h2];have:¬i<n+1:=⋯;simp[this]
  ·rw[if_neg hp,Nat.add_zero,ih];by_cases e:i=n
   ·subst e;simp[hp]
   ·have:(i<n+1)↔(i<n):=⋯;simp[this]
noncomputable def tb(m:Int)(i:Nat):Bool:=m.toNat.testBit i
theorem aa8(k:Nat):((2^k:Nat):Int)=(2:Int)^k:=by rw[Int.natCast_pow];rfl
theorem aaN(k:Nat):(0:Int)<2^k:=by rw[←aa8];exact Int.natCast_pos.mpr (Nat.two_pow_pos k)
theorem axM{m:Int}(h:0<=m)(k:Nat):m / 2^k=((m.toNat >>> k:Nat):Int):=by
 obtain⟨n,rfl⟩:=cH h;rw[bP,Nat.shiftRight_eq_div_pow,←aa8,Int.natCast_ediv]
theorem axI(a b:Nat):Builtin.bitAnd (a:Int) (b:Int)=((a&&& b:Nat):Int):=bitAnd_pp (dO a) (dO b)
theorem aqI(a b:Nat):Builtin.bitOr (a:Int) (b:Int)=((a||| b:Nat):Int):=by
 rw[bitOr_and,axI];have:=nat_or_add_and a b;omega
theorem af4{m:Int}(h:0<=m)(k:Nat):(Builtin.bitAnd (m / 2^k) 1=1)↔tb m k=true:=by
 rw[axM h,show (1:Int)=((1:Nat):Int) from rfl,axI];unfold tb;rw[Nat.testBit_eq_decide_div_mod_eq,Nat.shiftRight_eq_div_pow];have:m.toNat / 2^k&&& 1=m.toNat / 2^k%2:=Nat.and_two_pow_sub_one_eq_mod _ 1;rw[this];simp only[fB];omega
theorem aiU{a b:Int}(ha:0<=a)(hb:0<=b):0<=Builtin.bitAnd a b:=by rw[bitAnd_pp ha hb];exact dO _
theorem aj6{a b:Int}(ha:0<=a)(hb:0<=b):0<=Builtin.bitOr a b:=by
 obtain⟨x,rfl⟩:=cH ha;obtain⟨y,rfl⟩:=cH hb;rw[aqI];exact dO _
theorem adQ{a b:Int}(ha:0<=a)(hb:0<=b)(i:Nat):tb (Builtin.bitAnd a b) i=(tb a i&&tb b i):=by
 unfold tb;rw[bitAnd_pp ha hb,bP,Nat.testBit_and]
theorem apH{a b:Int}(ha:0<=a)(hb:0<=b)(i:Nat):tb (Builtin.bitOr a b) i=(tb a i||tb b i):=by
 obtain⟨x,rfl⟩:=cH ha;obtain⟨y,rfl⟩:=cH hb;unfold tb;rw[aqI,bP,Nat.testBit_or,bP,bP]
theorem arG(k i:Nat):tb (2^k) i=decide (k=i):=by
 unfold tb;rw[←aa8,bP,Nat.testBit_two_pow]
theorem aaQ(i:Nat):tb 0 i=false:=by unfold tb;simp
theorem abR{a b:Int}(ha:0<=a)(hb:0<=b)(h:∀i,tb a i=tb b i):a=b:=by
 have:a.toNat=b.toNat:=Nat.eq_of_testBit_eq h;omega
theorem alW{m:Int}(h:0<=m)(k i:Nat):tb (m*2^k) i=(decide (k<=i)&&tb m (i-k)):=by
 obtain⟨x,rfl⟩:=cH h;unfold tb;rw[←aa8,←Int.natCast_mul,bP,bP,←Nat.shiftLeft_eq,Nat.testBit_shiftLeft]
theorem ad6{m:Int}(h:0<=m)(k i:Nat):tb (m / 2^k) i=tb m (k+i):=by
 rw[axM h];unfold tb;rw[bP,Nat.testBit_shiftRight]
theorem adI{m:Int}{n i:Nat}(h:m<2^n)(hi:n<=i):tb m i=false:=by
 unfold tb;refine Nat.testBit_lt_two_pow (bA ?_ (Nat.pow_le_pow_right (by decide) hi));by_cases h0:0<=m
 ·have:=aa8 n;omega
 ·have:m.toNat=0:=⋯;rw[this];exact Nat.two_pow_pos n
@[irreducible] noncomputable def mk_(p:Nat->Bool)(n:Nat):Int:=(cnt p n:Nat)
theorem ao4(p:Nat->Bool)(n:Nat):mk_ p n=(cnt p n:Nat):=by rw[mk_]
theorem aCF(p:Nat->Bool)(n:Nat):0<=mk_ p n:=by rw[ao4];exact dO _
theorem aE6(p:Nat->Bool):mk_ p 0=0:=by rw[ao4,anC];rfl
theorem aAO(p:Nat->Bool)(n i:Nat):tb (mk_ p n) i=(decide (i<n)&&p i):=by
 unfold tb;rw[ao4,bP,axP]
theorem aw5(p:Nat->Bool)(n:Nat):mk_ p (n+1)=mk_ p n+(if p n=true then 2^n else 0):=by
 rw[ao4,ao4,amG,Int.natCast_add];split
 ·rw[aa8]
 ·rfl
theorem aG7(p:Nat->Bool)(n:Nat):mk_ p n<2^n:=by
 have:=avU p n;have e:=aa8 n;rw[ao4];omega
theorem axB(n i:Nat):tb (2^n-1) i=decide (i<n):=by
 have h:=aa8 n;have:((2:Int)^n-1).toNat=2^n-1:=by
  have:=Nat.two_pow_pos n;omega
 unfold tb;rw[this,Nat.testBit_two_pow_sub_one]
noncomputable def aNU(p:Nat->Bool)(lo:Int):Nat->List Int
 |0=>[]
 |n+1=>aNU p lo n++(if p n=true then [lo+(n:Int)] else [])
@[irreducible] noncomputable def flt(p:Nat->Bool)(lo:Int)(n:Nat):List Int:=aNU p lo n
theorem amE(p:Nat->Bool)(lo:Int):flt p lo 0=[]:=by rw[flt];rfl
theorem aFJ{p:Nat->Bool}{lo:Int}{α:Type}{f:Int->α}:[]=(flt p lo 0).map f:=by rw[amE];rfl
theorem atL(p:Nat->Bool)(lo:Int)(n:Nat):flt p lo (n+1)=flt p lo n++(if p n=true then [lo+(n:Int)] else []):=by rw[flt,flt];rfl
theorem apT{p:Nat->Bool}{lo:Int}{n:Nat}(h:p n=true):flt p lo (n+1)=flt p lo n++[lo+(n:Int)]:=by
 rw[atL,if_pos h]
theorem aq9{p:Nat->Bool}{lo:Int}{n:Nat}(h:p n=false):flt p lo (n+1)=flt p lo n:=by
 rw[atL,h,if_neg a8,cU]
theorem flt_mem{p:Nat->Bool}{lo z:Int}:∀{n:Nat},z∈flt p lo n↔∃i,i<n/\p i=true/\z=lo+(i:Int)
 |0=>by rw[amE];exact⟨λh=>(nomatch h),λ⟨i,h,_⟩=>absurd h (dB i)⟩
 |n+1=>by
  by_cases c:p n=true
  ·rw[apT c,bO,flt_mem,bJ];refine⟨λh=>?_,λ⟨i,h1,h2,h3⟩=>?_⟩
   ·rcases h with ⟨i,h1,h2,h3⟩ | h
    ·exact⟨i,⋯,h2,h3⟩
    ·exact⟨n,⋯,c,h⟩
   ·by_cases e:i=n
    ·subst e;exact .inr h3
    ·exact .inl ⟨i,⋯,h2,h3⟩
  ·rw[aq9 (by simpa using c),flt_mem];refine⟨λ⟨i,h1,h2,h3⟩=>⟨i,⋯,h2,h3⟩,λ⟨i,h1,h2,h3⟩=>⟨i,?_,h2,h3⟩⟩;have:i≠n:=λe=>c (e▸h2);omega
theorem aHZ{p:Nat->Bool}{lo:Int}{n k:Nat}(h:∀i,n<=i->p i=false)(hk:n<=k):flt p lo k=flt p lo n:=by
 obtain⟨d,rfl⟩:=Nat.exists_eq_add_of_le hk;clear hk;induction d with
 |zero=>rfl
 |succ d ih=>rw[show n+(d+1)=(n+d)+1 from rfl,aq9 (h _ ⋯),ih]
noncomputable def aaG(zs:List Int):Int:=zs.foldl (λa z=>Builtin.bitOr a (1*2^z.toNat)) 0
theorem amV(zs:List Int)(z:Int):aaG (zs++[z])=Builtin.bitOr (aaG zs) (1*2^z.toNat):=by unfold aaG;rw[List.foldl_append];rfl
theorem apW:∀(zs:List Int) (a:Int),0<=a->0<=zs.foldl (λa z=>Builtin.bitOr a (1*2^z.toNat)) a/\∀i,tb (zs.foldl (λa z=>Builtin.bitOr a (1*2^z.toNat)) a) i=(tb a i||zs.any λz=>decide (z.toNat=i))
 |[],a,h=>⟨h,λi=>by simp⟩
 |z::zs,a,h=>by
  have e:(1*2^z.toNat:Int)=2^z.toNat:=⋯;have p:=bN (aaN z.toNat);obtain⟨h1,h2⟩:=apW zs (Builtin.bitOr a (1*2^z.toNat)) (by rw[e];exact aj6 h p);refine⟨h1,λi=>?_⟩;show tb (zs.foldl _ (Builtin.bitOr a (1*2^z.toNat))) i=_;rw[h2 i,e,apH h p,arG,bQ,Bool.or_assoc]
theorem aa9(zs:List Int):0<=aaG zs:=(apW zs 0 (aS 0)).1
theorem abA(zs:List Int)(i:Nat):tb (aaG zs) i=zs.any λz=>decide (z.toNat=i):=by
 have h:=(apW zs 0 (aS 0)).2 i;rw[aaQ,dG] at h;exact h
theorem aD8{m:Int}(h:0<=m):m<2^Builtin.Int.intBits m:=by
 unfold Builtin.Int.intBits;split
 ·rename_i c;have:m=0:=by simpa using c
  rw[this];decide
 ·have:=Nat.lt_log2_self (n:=m.natAbs);have e:=aa8 (m.natAbs.log2+1);omega
theorem ar1{m:Int}{n:Nat}(h:0<=m)(hn:m<2^n):Builtin.Int.intBits m<=n:=by
 unfold Builtin.Int.intBits;split
 ·exact bM _
 ·rename_i c;have h0:m≠0:=by simpa using c
  have e:=aa8 n;have:m.natAbs.log2<n:=(Nat.log2_lt ⋯).mpr ⋯;omega
noncomputable def at3(m:Int):List Int:=flt (tb m) 0 (Builtin.Int.intBits m)
theorem alO{m:Int}{n:Nat}(h:0<=m)(hn:m<2^n):at3 m=flt (tb m) 0 n:=
 (aHZ (λi hi=>adI (aD8 h) hi) (ar1 h hn)).symm
theorem aFO{m:Int}(h:0<=m)(k:Nat):decide (Builtin.bitAnd (m / 2^k) 1=1)=tb m k:=by
 by_cases c:tb m k=true
 ·rw[c];exact eZ ((af4 h _).mpr c)
 ·have c':tb m k=false:=by simpa using c
  rw[c'];exact fC λq=>c ((af4 h _).mp q)
end L2
namespace L2
open PySem PyProof.Rows
theorem aQ6{a b:Int}{n:Nat}(ha:0<=a)(hb:0<=b)(h1:a<2^n)(h2:b<2^n):Builtin.bitOr a b<2^n:=by
 obtain⟨x,rfl⟩:=cH ha;obtain⟨y,rfl⟩:=cH hb;have e:=aa8 n;have:x||| y<2^n:=Nat.or_lt_two_pow ⋯ ⋯
 rw[aqI];omega
noncomputable def Its(lo st:Int)(n:Nat):It:=⟨λi _=>i<n,λi H x H'=>H'=H/\x=.int (lo+i*st),λi _=>n<=i⟩
theorem aGH(lo:Int)(n:Nat):Its lo 1 n=Itr lo n:=by
 unfold Its Itr;simp only[Int.mul_one]
theorem atR{P:Program}{w:World}{K:FG}{tg:Expr}(it:Addr)(lo st:Int)(n:Nat):Turn P w K tg (Its lo st n) [it] it (λi h=>IsRangeIter h it (lo+(i:Nat)*st) ((n:Int)-(i:Nat)) st) where
 mem:=by simp
 obj:=λi h st b hb=>by
  have e:b=it:=by simpa using hb
  subst e;exact⟨_,st,λv z=>by
   have z':Data.fields _=Data.cell v:=z;cases z'⟩
 keep:=λi h h' st k=>k it (by simp) _ st
 item:=by
  intro X hP hw hK hc i pins s σ H E I hf hst hg;subst hP hw hK;obtain⟨f0,f1,f2,f3,f4,f5⟩:=hf it (by simp);have W:=Walks.range (prog:=X.prog) (w:=X.w) (I.ok.hd hc) it lo st n;refine W.item i s _ _ hg hst λv h' tk hv st' kk=>?_;obtain⟨t,rfl⟩:=hv;have I1:Inv X pins σ H {s with heap:=h',toks:=tk}:=I.turned (λb o hb e=>kk b o (by simpa using hb) e) f0 f1 f3 f4 f5;exact⟨(),anE (s:={s with heap:=h',toks:=tk}) (n:="range_iterator") st' rfl rfl (by decide) ⟨.int (lo+i*st),H,I1,⟨t,rfl⟩,⟨rfl,rfl⟩,st',λb hb=>(hf b hb).1⟩⟩
 done:=by
  intro X hP hw hK hc i pins s σ H E I hf st hg;subst hP hw hK;obtain⟨f0,f1,f2,f3,f4,f5⟩:=hf it (by simp);exact wpAny_pyNext_range_end (I.ok.hd hc) st (by have:n<=i:=hg;omega) λh' eb=>⟨rfl,I.turned (t':=s.toks) (λb o hb e=>eb b o hb e) f0 f1 f3 f4 f5⟩
 self:=λ_ _ _ _ _ st h=>wpAny_pyIter_rangeiter st h
theorem au3{P:Program}{w:World}{K:FG}{tg:Expr}(it:Addr)(lo st:Int)(n:Nat):Turn P w K tg (Its lo st n) [it] it (λi h=>IsLongIter h it (lo+(i:Nat)*st) ((n:Int)-(i:Nat)) st) where
 mem:=by simp
 obj:=λi h st b hb=>by
  have e:b=it:=by simpa using hb
  subst e;exact⟨_,st,λv z=>by
   have z':Data.fields _=Data.cell v:=z;cases z'⟩
 keep:=λi h h' st k=>k it (by simp) _ st
 item:=by
  intro X hP hw hK hc i pins s σ H E I hf hst hg;subst hP hw hK;obtain⟨f0,f1,f2,f3,f4,f5⟩:=hf it (by simp);have W:=Walks.longrange (prog:=X.prog) (w:=X.w) (I.ok.hd hc) it lo st n;refine W.item i s _ _ hg hst λv h' tk hv st' kk=>?_;obtain⟨t,rfl⟩:=hv;have I1:Inv X pins σ H {s with heap:=h',toks:=tk}:=I.turned (λb o hb e=>kk b o (by simpa using hb) e) f0 f1 f3 f4 f5;exact⟨(),anE (s:={s with heap:=h',toks:=tk}) (n:="longrange_iterator") st' rfl rfl (by decide) ⟨.int (lo+i*st),H,I1,⟨t,rfl⟩,⟨rfl,rfl⟩,st',λb hb=>(hf b hb).1⟩⟩
 done:=by
  intro X hP hw hK hc i pins s σ H E I hf st hg;subst hP hw hK;obtain⟨f0,f1,f2,f3,f4,f5⟩:=hf it (by simp);exact wpAny_pyNext_long_end (I.ok.hd hc) st (by have:n<=i:=hg;omega) λh' eb=>⟨rfl,I.turned (t':=s.toks) (λb o hb e=>eb b o hb e) f0 f1 f3 f4 f5⟩
 self:=λ_ _ _ _ _ st h=>wpAny_pyIter_longiter st h
section
variable{X:Cx}{tg:Expr}
theorem az1{pins:List (Addr×Obj)}{σ:St}{H:Hp}{s:Shared}{R:It->Hp->Prop}{E:Value->Shared->Prop}{lo hi st:Int}{n:Nat}{t u v:Tok}{tk:Nat}(I:Inv X pins σ H s)(hn:Builtin.Range.rangeSize lo hi st=(n:Int))
  (q:R (Its lo st n) H):wpAny (model X.prog X.w) X.A (pyIter (.ref s.heap.objs.size)) (PIE X pins σ tg R) E {s with heap:=s.heap.push {cls:=.type "range",data:=.fields #[.int lo t,.int hi u,.int st v]},toks:=tk}:=by
 have I1:Inv X pins σ H {s with heap:=s.heap.push {cls:=.type "range",data:=.fields #[.int lo t,.int hi u,.int st v]},toks:=tk}:=I.kept λb o e=>aU _ e;have e1:lo+((0:Nat):Int)*st=lo:=by simp
 have e2:((n:Nat):Int)-((0:Nat):Int)=Builtin.Range.rangeSize lo hi st:=by rw[hn];simp
 by_cases hsm:Builtin.Range.small lo hi st=true
 ·refine wpAny_pyIter_range (IsRange.new ..) hsm ?_;refine⟨(s.heap.push {cls:=.type "range",data:=.fields #[.int lo t,.int hi u,.int st v]}).objs.size,[(s.heap.push {cls:=.type "range",data:=.fields #[.int lo t,.int hi u,.int st v]}).objs.size],_,_,H,rfl,
   I1.kept (t':=tk) λb o e=>aU _ e,atR _ lo st n,?_,λb hb=>?_,q⟩
  ·show IsRangeIter _ _ (lo+((0:Nat):Int)*st) (((n:Nat):Int)-((0:Nat):Int)) st;rw[e1,e2];exact a9 _ rfl
  ·have e:b=(s.heap.push {cls:=.type "range",data:=.fields #[.int lo t,.int hi u,.int st v]}).objs.size:=by simpa using hb
   subst e;exact I1.fpOk (aQ _) (I1.hok.fresh (aQ _))
 ·refine wpAny_pyIter_longrange (IsRange.new ..) (by simpa using hsm) ?_;refine⟨(s.heap.push {cls:=.type "range",data:=.fields #[.int lo t,.int hi u,.int st v]}).objs.size,[(s.heap.push {cls:=.type "range",data:=.fields #[.int lo t,.int hi u,.int st v]}).objs.size],_,_,H,rfl,
   I1.kept (t':=tk) λb o e=>aU _ e,au3 _ lo st n,?_,λb hb=>?_,q⟩
  ·show IsLongIter _ _ (lo+((0:Nat):Int)*st) (((n:Nat):Int)-((0:Nat):Int)) st;rw[e1,e2];exact a9 _ rfl
  ·have e:b=(s.heap.push {cls:=.type "range",data:=.fields #[.int lo t,.int hi u,.int st v]}).objs.size:=by simpa using hb
   subst e;exact I1.fpOk (aQ _) (I1.hok.fresh (aQ _))
theorem ax3{a b c:Int}(hc:0<c):0<=Builtin.Range.rangeSize a b c:=by
 unfold Builtin.Range.rangeSize;rw[if_pos hc];split
 ·have:0<=(b-a-1) / c:=dW ⋯ ⋯;omega
 ·exact aS 0
def aG5(ta:TA):TI:=λσ H R=>ta σ H λvs H1=>∃i j:Int,vs=[.int i,.int j]/\R (Itr i (j-i).toNat) H1
theorem aAG{a b:Expr}{ta:TA}{p pos:Pos}(hg:Gl X "range")(hm:X.mg "range"=none)(ha:PA X [a,b] ta)(hs:starEach [a,b] X.env=[(false,eval a X.env),(false,eval b X.env)]:=by rfl)(hs2:starEach [b] X.env=[(false,eval b X.env)]:=by rfl):
  PI X tg (.Call (.Name "range" p) [a,b] [] pos) (aG5 ta):=by
 intro pins s σ H R I h;refine Call_ (ahB I hg hm fA (PyProof.Rows.callWith_type1 (thn (ha pos pins s σ H _ I h) λus s1 ⟨vs,H1,I1,r1,q1⟩=>?_) (by rw[hs,hs2]) (by rw[hs2];rfl)));obtain⟨i,j,e,q⟩:=q1;subst e;cases r1 with
 |cons r rr=>
  cases rr with
  |cons r' rr=>
   cases rr;obtain⟨t,rfl⟩:=r;obtain⟨t',rfl⟩:=r';exact call_range_2 (az1 I1 (n:=(j-i).toNat) (by rw[rangeSize_one];split<;>omega) (by rw[aGH];exact q))
theorem iRL{a b:Expr}{ta:TA}{p pos:Pos}(hm:X.mg "range"=none)(ha:As X [a,b] ta)(hg:Gl X "range":=by rfl)(hs:starEach [a,b] X.env=[(false,eval a X.env),(false,eval b X.env)]:=by rfl)(hs2:starEach [b] X.env=[(false,eval b X.env)]:=by rfl):
  Il X tg (.Call (.Name "range" p) [a,b] [] pos) (aG5 ta):=⟨aAG hg hm ha.h hs hs2⟩
end
noncomputable def aDA(a:Addr)(lo hi st:Int):HO:=.ext λh=>∃t u v,h.get? a=some {cls:=.type "range",data:=.fields #[.int lo t,.int hi u,.int st v]}
section
variable{X:Cx}
theorem auI{pins:List (Addr×Obj)}{σ:St}{H:Hp}{s:Shared}{Q:VK}{lo hi st:Int}{t u v:Tok}{tk:Nat}(I:Inv X pins σ H s)(q:∀p,H p=none->Q (.ref p) (upd H p (aDA p lo hi st))):
  EP X pins σ Q (.ref s.heap.objs.size) {s with heap:=s.heap.push {cls:=.type "range",data:=.fields #[.int lo t,.int hi u,.int st v]},toks:=tk}:=by
 refine⟨.ref s.heap.objs.size,upd H s.heap.objs.size (aDA s.heap.objs.size lo hi st),I.laid (t':=tk) (λb u e=>aU _ e) (aQ _) ?_,rfl,q _ (I.hok.fresh (aQ _))⟩;have e:=a9 s.heap (o:={cls:=.type "range",data:=.fields #[.int lo t,.int hi u,.int st v]}) rfl;exact⟨⟨t,u,v,e⟩,⟨_,e⟩,λh1 h2 ⟨t,u,v,z⟩ k=>⟨t,u,v,k _ z⟩⟩
theorem aQF:Cl1 X (.type "range") (λxs H Q=>∃i j,xs=[.int i,.int j]/\∀p,H p=none->Q (.ref p) (upd H p (aDA p i j 1))):=by
 refine⟨λpins s σ H xs us Q I r h=>?_⟩;obtain⟨i,j,rfl,q⟩:=h;obtain⟨u,u',rfl,⟨t,rfl⟩,⟨t',rfl⟩⟩:=aoS r;exact call_range_2 (auI I q)
theorem aEG:Cl1 X (.type "range") (λxs H Q=>∃i j c,xs=[.int i,.int j,.int c]/\(0<c/\c<1073741824)/\∀p,H p=none->Q (.ref p) (upd H p (aDA p i j c))):=by
 refine⟨λpins s σ H xs us Q I r h=>?_⟩;obtain⟨i,j,c,rfl,⟨c0,c1⟩,q⟩:=h;cases r with
 |cons r rr=>
  cases rr with
  |cons r' rr=>
   cases rr with
   |cons r'' rr=>
    cases rr;obtain⟨t,rfl⟩:=r;obtain⟨t',rfl⟩:=r';obtain⟨t'',rfl⟩:=r'';exact call_range_3 (Int.ne_of_gt c0) (auI I q) (.inl (PyProof.noPylong_small ⋯))
theorem avL{lo st:Int}:∀{n:Nat} {acc:Array Value},ItemsOf (λi v=>∃t,v=.int (lo+i*st) t) acc n->Vals ((List.range n).map λi:Nat=>V.int (lo+i*st)) acc.toList:=by
 intro n acc h;obtain⟨hz,hi⟩:=h;have key:∀(m:Nat),m<=n->Vals ((List.range m).map λi:Nat=>V.int (lo+i*st)) (acc.toList.take m):=by
  intro m;induction m with
  |zero=>intro _;exact .nil
  |succ m ih=>
   intro hm;have hlt:m<acc.toList.length:=by rw[bS];omega
   obtain⟨t,e⟩:=hi m acc.toList[m] (by rw[←cI];exact bW hlt);rw[List.range_succ,bB,b8,bW hlt];exact (ih ⋯).append (.cons ⟨t,e⟩ .nil)
 have:=key n (aQ _)
 rwa [eC (by rw[bS];omega)] at this
theorem cLR(hc:X.calm=true:=by rfl):Cl1 X (.type "list") (λxs H Q=>∃(p:Addr) (lo hi st:Int) (n:Nat),xs=[.ref p]/\H p=some (aDA p lo hi st)/\Builtin.Range.small lo hi st=true/\Builtin.Range.rangeSize lo hi st=(n:Int)/\n<=100000/\
  ∀l,H l=none->Q (.ref l) (upd H l (.lst ((List.range n).map λi:Nat=>V.int (lo+i*st))))):=by
 refine⟨λpins s σ H xs us Q I r h=>?_⟩;obtain⟨p,lo,hi,st,n,rfl,hp,hs,hn,hl,q⟩:=h;obtain⟨u,rfl,rx⟩:=acC r;cases rx;obtain⟨⟨t,u,v,e⟩,_,_⟩:=I.hok p _ hp;refine call_list_range (I.ok.hd hc) e hs hn (bL hl (by decide)) λh' tk acc c' kp hS hI=>?_;have hz:((List.range n).map λi:Nat=>V.int (lo+i*st)).length<=sizeLine:=by
  rw[aR,cJ,eU];omega
 exact⟨.ref s.heap.objs.size,_,I.laid (t':=tk) kp (aQ _) (show ObjOk X.prog X.w _ h' _ (.lst _) from ⟨hz,acc.toList,c',avL hI,by simpa using hS⟩),rfl,q _ (I.hok.fresh (aQ _))⟩
def rBL:V->List V->Hp->VK->Prop:=λx vs H Q=>∃i,x=.int i/\vs=[]/\Q (.int (Builtin.Int.intBits i:Nat)) H
theorem aPG:MtR X "int.bit_length" rBL:=by
 intro pins s σ H x xs v us Q I rx rv h;obtain⟨i,rfl,rfl,q⟩:=h;cases rv;obtain⟨t,rfl⟩:=rx;exact call_int_bit_length ⟨.int _,H,I.tok _,⟨()⟩,q⟩
theorem eBL{o:Expr}{to:TE}{apos cpos:Pos}(ho:E X o to)(hbase:attributeBase o "bit_length" X.env (eval o X.env)=eval o X.env:=by rfl)(hline:(apos.endLine==cpos.line)=true:=by rfl):
  E X (.Call (.Attribute o "bit_length" apos) [] [] cpos) (aN0 X.K "int" rBL to):=⟨aKG PySem.F.plainAttrs_int PySem.F.slot_int_bit_length PySem.F.type_int_bit_length aPG ho.h hbase hline⟩
theorem aeI:Op2 X (compareOp .Is) (λx y H Q=>y=.non/\Q (.bl (decide (x=.non))) H):=⟨aJG⟩
theorem aOY:Op2 X (compareOp .IsNot) (λx y H Q=>y=.non/\Q (.bl (!decide (x=.non))) H):=⟨aGL⟩
theorem oIn:Op2 X (compareOp .In) (rIn X.K false):=⟨ayY⟩
theorem aK6:Op2 X (compareOp .NotIn) (rIn X.K true):=⟨aq6⟩
theorem alK(z:Int):∀zs:List Int,inV (.int z) (zs.map V.int)=zs.any (λy=>decide (y=z))
 |[]=>rfl
 |y::r=>by
  show (eqV (.int y) (.int z)||inV (.int z) (r.map V.int))=(decide (y=z)||r.any _)
  rw[alK z r];congr 1
end
theorem Same.none{H H':Hp}{D:Addr}(s:Same H H')(h:H' D=none):H D=none:=by
 cases e:H D with
 |none=>rfl
 |some o=>exact absurd (h.symm.trans (s _ _ e)) (by simp)
def Keep(H H':Hp):Prop:=∀b o,(∀xs,o≠ .lst xs)->H b=some o->H' b=some o
theorem Same.keep{H H':Hp}(s:Same H H'):Keep H H':=λb o _ h=>s b o h
theorem Keep.trans{H H1 H2:Hp}(a:Keep H H1)(b:Keep H1 H2):Keep H H2:=λc o n h=>b c o n (a c o n h)
theorem am9{H:Hp}{D:Addr}{l l':List V}(h:H D=some (.lst l)):Keep H (upd H D (.lst l')):=λb o n hb=>by
 by_cases e:b=D
 ·subst e;rw[h] at hb;cases hb;exact absurd rfl (n l)
 ·rw[aaD e];exact hb
theorem Keep.tup{H H':Hp}(k:Keep H H'){b:Addr}{xs:List V}(h:H b=some (.tup xs)):H' b=some (.tup xs):=k b _ (λ_ z=>nomatch z) h
theorem Keep.ins{H H':Hp}(k:Keep H H'){b C dx:Addr}{fs:List (Str×V)}(h:H b=some (.ins C dx fs)):H' b=some (.ins C dx fs):=k b _ (λ_ z=>nomatch z) h
section
variable{js:List Nat}{σ:St}{tt:TT}{te:TE}{Q:VK}{H1:Hp}
end
section
variable{X:Cx}{K:FG}
theorem xLc(hK:X.K=K:=by rfl):Ixs X (aKY K):=hK▸xL
theorem xTc(hK:X.K=K:=by rfl):Ixs X (aJI K):=hK▸xT
theorem auU(hK:X.K=K:=by rfl):Op2 X (compareOp .In) (rIn K false):=hK▸oIn
theorem aqB(hK:X.K=K:=by rfl):Op2 X (compareOp .NotIn) (rIn K true):=hK▸aK6
theorem afA(hK:X.K=K:=by rfl):Cl1 X (.builtin "len") (λxs H Q=>∃p ys,xs=[.ref p]/\(SqL K H p ys∨SqT K H p ys)/\Q (.int ys.length) H):=hK▸cLen
theorem azY(hK:X.K=K:=by rfl):Sls X (aKI K):=hK▸slL
end
inductive Kd where
 |int | bool | str | non | list | tuple | dict
noncomputable def Kd.nm:Kd->String
 |.int=>"int" | .bool=>"bool" | .str=>"str" | .non=>"NoneType" | .list=>"list" | .tuple=>"tuple" | .dict=>"dict"
noncomputable def Kd.isa:Kd->Kd->Bool
 |.int,.int=>true | .bool,.int=>true | .bool,.bool=>true | .str,.str=>true | .list,.list=>true | .tuple,.tuple=>true | .dict,.dict=>true | _,_=>false
def KindV(K:FG)(H:Hp):V->Kd->Prop
 |.int _,k=>k=.int
 |.bl _,k=>k=.bool
 |.str _,k=>k=.str
 |.non,k=>k=.non
 |.ref a,k=>(k=.list/\∃xs,SqL K H a xs)∨(k=.tuple/\∃xs,SqT K H a xs)∨(k=.dict/\∃kvs,H a=some (.dK kvs))
 |_,_=>False
theorem cIs{X:Cx}:Cl1 X (.builtin "isinstance") (λxs H Q=>∃(v:V) (n k:Kd),xs=[v,.ty n.nm]/\n.nm≠"NoneType"/\KindV X.K H v k/\Q (.bl (Kd.isa k n)) H):=by
 refine⟨λpins s σ H xs us Q I r h=>?_⟩;obtain⟨v,n,k,rfl,hn,hk,q⟩:=h;obtain⟨u,w',rfl,r1,r2⟩:=aoS r;cases r2;have fin:∀tk,EP X pins σ Q (.bool (Kd.isa k n)) {s with toks:=tk}:=λtk=>⟨.bl _,H,I.tok _,rfl,q⟩;have fin0:EP X pins σ Q (.bool (Kd.isa k n)) s:=⟨.bl _,H,I,rfl,q⟩;cases v with
 |int i=>
  obtain⟨t,rfl⟩:=r1;cases (show k=Kd.int from hk);cases n with
  |int=>exact PySem.IsiPair.int_int fin0
  |bool=>exact PySem.IsiPair.int_bool (fin _)
  |str=>exact PySem.IsiPair.int_str (fin _)
  |list=>exact PySem.IsiPair.int_list (fin _)
  |tuple=>exact PySem.IsiPair.int_tuple (fin _)
  |dict=>exact PySem.IsiPair.int_dict (fin _)
  |non=>exact absurd rfl hn
 |bl b=>
  cases r1;cases (show k=Kd.bool from hk);cases n with
  |int=>exact PySem.IsiPair.bool_int fin0
  |bool=>exact PySem.IsiPair.bool_bool fin0
  |str=>exact PySem.IsiPair.bool_str (fin _)
  |list=>exact PySem.IsiPair.bool_list (fin _)
  |tuple=>exact PySem.IsiPair.bool_tuple (fin _)
  |dict=>exact PySem.IsiPair.bool_dict (fin _)
  |non=>exact absurd rfl hn
 |str x=>
  obtain⟨t,rfl⟩:=r1;cases (show k=Kd.str from hk);cases n with
  |int=>exact PySem.IsiPair.str_int (fin _)
  |bool=>exact PySem.IsiPair.str_bool (fin _)
  |str=>exact PySem.IsiPair.str_str fin0
  |list=>exact PySem.IsiPair.str_list (fin _)
  |tuple=>exact PySem.IsiPair.str_tuple (fin _)
  |dict=>exact PySem.IsiPair.str_dict (fin _)
  |non=>exact absurd rfl hn
 |non=>
  cases r1;cases (show k=Kd.non from hk);cases n with
  |int=>exact PySem.IsiPair.NoneType_int (fin _)
  |bool=>exact PySem.IsiPair.NoneType_bool (fin _)
  |str=>exact PySem.IsiPair.NoneType_str (fin _)
  |list=>exact PySem.IsiPair.NoneType_list (fin _)
  |tuple=>exact PySem.IsiPair.NoneType_tuple (fin _)
  |dict=>exact PySem.IsiPair.NoneType_dict (fin _)
  |non=>exact absurd rfl hn
 |ref a=>
  cases r1;rcases hk with ⟨rfl,ys,hq⟩ | ⟨rfl,ys,hq⟩ | ⟨rfl,kvs,hq⟩
  ·obtain⟨its,rv,pl,_⟩:=I.list hq;obtain⟨o,ho,hc,_⟩:=pl.isList;cases n with
   |int=>exact PySem.IsiPair.list_int ho hc (fin _)
   |bool=>exact PySem.IsiPair.list_bool ho hc (fin _)
   |str=>exact PySem.IsiPair.list_str ho hc (fin _)
   |list=>exact PySem.IsiPair.list_list ho hc fin0
   |tuple=>exact PySem.IsiPair.list_tuple ho hc (fin _)
   |dict=>exact PySem.IsiPair.list_dict ho hc (fin _)
   |non=>exact absurd rfl hn
  ·obtain⟨its,rv,⟨o,ho,hc,_⟩,_⟩:=I.tuple hq;cases n with
   |int=>exact PySem.IsiPair.tuple_int ho hc (fin _)
   |bool=>exact PySem.IsiPair.tuple_bool ho hc (fin _)
   |str=>exact PySem.IsiPair.tuple_str ho hc (fin _)
   |list=>exact PySem.IsiPair.tuple_list ho hc (fin _)
   |tuple=>exact PySem.IsiPair.tuple_tuple ho hc fin0
   |dict=>exact PySem.IsiPair.tuple_dict ho hc (fin _)
   |non=>exact absurd rfl hn
  ·obtain⟨_,_,_,_,o,_,_,ho,ex,_⟩:=I.hok a _ hq;cases n with
   |int=>exact PySem.IsiPair.dict_int ho ex.1 (fin _)
   |bool=>exact PySem.IsiPair.dict_bool ho ex.1 (fin _)
   |str=>exact PySem.IsiPair.dict_str ho ex.1 (fin _)
   |list=>exact PySem.IsiPair.dict_list ho ex.1 (fin _)
   |tuple=>exact PySem.IsiPair.dict_tuple ho ex.1 (fin _)
   |dict=>exact PySem.IsiPair.dict_dict ho ex.1 fin0
   |non=>exact absurd rfl hn
 |byt b=>exact False.elim hk
 |flt b=>exact False.elim hk
 |ty n=>exact False.elim hk
end L2
namespace L2
open PySem PySem.Spec PyProof.Rows PySem.Builtin PySem.Builtin.Str
noncomputable abbrev Tx(l:List Nat):Str:=⟨l.toArray⟩
theorem Tx_inj{a b:List Nat}:Tx a=Tx b↔a=b:=⟨λh=>by
 have:(Tx a).cps.toList=(Tx b).cps.toList:=by rw[h]
 simpa using this,λh=>by rw[h]⟩
theorem aG3(x:Str):Tx x.cps.toList=x:=by cases x;simp
theorem abP(a:List Nat):(Tx a).length=a.length:=by simp[Str.length]
noncomputable def Itx(x:Str):It:=⟨λi _=>i<x.cps.size,λi H v H'=>H'=H/\∃c,x.cps[i]? =some c/\v=.str ⟨#[c]⟩,λi _=>i=x.cps.size⟩
theorem azX{P:Program}{w:World}{K:FG}{tg:Expr}(x:Str)(t:Tok)(it:Addr):Turn P w K tg (Itx x) [it] it (λi h=>h.IsStrIter it "str_ascii_iterator" x t i) where
 mem:=by simp
 obj:=λi h st b hb=>by
  have e:b=it:=by simpa using hb
  subst e;obtain⟨o,e,c,d⟩:=st;exact⟨o,e,λv z=>by rw[d] at z;cases z⟩
 keep:=λi h h' st k=>by
  obtain⟨o,e,r⟩:=st;exact⟨o,k it (by simp) o e,r⟩
 item:=by
  intro X hP hw hK hc i pins s σ H E I hf st hg;subst hP hw hK;obtain⟨f0,f1,f2,f3,f4,f5⟩:=hf it (by simp);have hg:i<x.cps.size:=hg;refine wpAny_pyNext_ascii_item st (c:=x.cps[i]) (by simp[hg]) λh' st' sb=>?_;have I1:Inv X pins σ H {s with heap:=h',toks:=s.toks+1}:=I.turned (λb o hb e=>sb.extBut b o hb e) f0 f1 f3 f4 f5;obtain⟨o,e,c,d⟩:=id st';exact⟨(),anE (s:={s with heap:=h',toks:=s.toks+1}) e c d (by decide) ⟨.str ⟨#[x.cps[i]]⟩,H,I1,⟨()⟩,⟨rfl,x.cps[i],by simp[hg],rfl⟩,st',λb hb=>(hf b hb).1⟩⟩
 done:=by
  intro X hP hw hK hc i pins s σ H E I hf st hg;subst hP hw hK;obtain⟨f0,f1,f2,f3,f4,f5⟩:=hf it (by simp);have hg:i=x.cps.size:=hg;exact wpAny_pyNext_ascii_end (I.ok.hd hc) st (by simp[hg]) λh' eb=>⟨rfl,I.turned (t':=s.toks) (λb o hb e=>eb b o hb e) f0 f1 f3 f4 f5⟩
 self:=λ_ _ _ _ _ st h=>wpAny_pyIter_striter_ascii st h
theorem az6{P:Program}{w:World}{K:FG}{tg:Expr}(x:Str)(t:Tok)(it:Addr):Turn P w K tg (Itx x) [it] it (λi h=>h.IsStrIter it "str_iterator" x t i) where
 mem:=by simp
 obj:=λi h st b hb=>by
  have e:b=it:=by simpa using hb
  subst e;obtain⟨o,e,c,d⟩:=st;exact⟨o,e,λv z=>by rw[d] at z;cases z⟩
 keep:=λi h h' st k=>by
  obtain⟨o,e,r⟩:=st;exact⟨o,k it (by simp) o e,r⟩
 item:=by
  intro X hP hw hK hc i pins s σ H E I hf st hg;subst hP hw hK;obtain⟨f0,f1,f2,f3,f4,f5⟩:=hf it (by simp);have hg:i<x.cps.size:=hg;refine wpAny_pyNext_wide_item st (c:=x.cps[i]) (by simp[hg]) λh' st' sb=>?_;have I1:Inv X pins σ H {s with heap:=h',toks:=s.toks+1}:=I.turned (λb o hb e=>sb.extBut b o hb e) f0 f1 f3 f4 f5;obtain⟨o,e,c,d⟩:=id st';exact⟨(),anE (s:={s with heap:=h',toks:=s.toks+1}) e c d (by decide) ⟨.str ⟨#[x.cps[i]]⟩,H,I1,⟨()⟩,⟨rfl,x.cps[i],by simp[hg],rfl⟩,st',λb hb=>(hf b hb).1⟩⟩
 done:=by
  intro X hP hw hK hc i pins s σ H E I hf st hg;subst hP hw hK;obtain⟨f0,f1,f2,f3,f4,f5⟩:=hf it (by simp);have hg:i=x.cps.size:=hg;exact wpAny_pyNext_wide_end (I.ok.hd hc) st (by simp[hg]) λh' eb=>⟨rfl,I.turned (t':=s.toks) (λb o hb e=>eb b o hb e) f0 f1 f3 f4 f5⟩
 self:=λ_ _ _ _ _ st h=>wpAny_pyIter_striter_wide st h
section
variable{X:Cx}{tg:Expr}
def iTxt(tl:TE):TI:=λσ H R=>tl σ H λx H1=>∃z,x=.str z/\R (Itx z) H1
theorem iX{l:Expr}{tl:TE}(hl:E X l tl):Il X tg l (iTxt tl):=by
 refine⟨λpins s σ H R I h=>?_⟩;refine thn (hl.h pins s σ H _ I h) λu s1 ⟨x,H1,I1,r1,q1⟩=>?_;obtain⟨z,rfl,q⟩:=q1;obtain⟨t,rfl⟩:=r1;have fp:∀b∈[s1.heap.objs.size],ahT X pins H1 b:=λb hb=>by
  have e:b=s1.heap.objs.size:=by simpa using hb
  subst e;exact I1.fpOk (aQ _) (I1.hok.fresh (aQ _))
 cases ha:z.cps.all (·<128)
 ·exact wpAny_pyIter_wide ha ⟨s1.heap.objs.size,[s1.heap.objs.size],_,_,H1,rfl,I1.kept (t':=s1.toks) λb o e=>aU _ e,az6 z t _,⟨_,a9 _ rfl,rfl,rfl⟩,fp,q⟩
 ·exact wpAny_pyIter_ascii ha ⟨s1.heap.objs.size,[s1.heap.objs.size],_,_,H1,rfl,I1.kept (t':=s1.toks) λb o e=>aU _ e,azX z t _,⟨_,a9 _ rfl,rfl,rfl⟩,fp,q⟩
variable{js:List Nat}{σ:St}{tt:TT}{te:TE}{Q:VK}{H1:Hp}
theorem aDI{xs:List Nat}(R:Nat->List V->Prop)(hn:xs.length<=sizeLine)(h0:R 0 [])
  (hs:∀(i:Nat) (c:Nat) (l:List V) (D:Addr) (H2:Hp) (E:V->Hp->Prop) (F:Hp->Prop),xs[i]? =some c->R i l->H1 D=none->Same H1 H2->H2 D=some (.lst l)->(∀y H5,Same H2 H5->R (i+1) (l++[y])->E y H5)->(∀H4,Same H2 H4->R (i+1) l->F H4)->
   tt (some (.str (Tx [c]))::ab1 js σ) H2 λb H4=>if b=true then te (some (.str (Tx [c]))::ab1 js σ) H4 E else F H4)
  (hd:∀(D:Addr) (H2:Hp) (l:List V),R xs.length l->H1 D=none->Same H1 H2->H2 D=some (.lst l)->Q (.ref D) H2):as1 (Itx (Tx xs)) js σ tt te Q H1:=by
 intro D hD;have hz:(Tx xs).cps.size=xs.length:=by simp
 refine⟨λi m H2=>m=xs.length-i/\i<=xs.length/\Same H1 H2/\∃l,H2 D=some (.lst l)/\l.length<=i/\R i l,⟨xs.length,by simp,bM _,aaB hD _,[],aaA,aQ _,h0⟩,?_⟩;rintro i m H2 ⟨rfl,hi,s2,l,h2,hll,hR⟩;by_cases hlt:i<xs.length
 ·refine .inr ⟨show i<(Tx xs).cps.size by rw[hz];exact hlt,λv H3 y=>?_⟩;obtain⟨e,c,ec,ev⟩:=y;subst e ev;refine hs i c l D _ _ _ (by simpa using ec) hR hD s2 h2 (λz H5 s5 r5=>?_) (λH4 s4 r4=>?_)
  ·refine⟨l,s5 _ _ h2,d9 hll (bA hlt hn),xs.length-(i+1),⋯,rfl,hlt,λb o hb=>?_,l++[z],aaA,by rw[aY,bX];omega,r5⟩;rw[aaD (aaJ hb hD)];exact s5 _ _ (s2 _ _ hb)
  ·exact⟨xs.length-(i+1),⋯,rfl,hlt,s2.trans s4,l,s4 _ _ h2,⋯,r4⟩
 ·have e:i=xs.length:=⋯;subst e;exact .inl ⟨show xs.length=(Tx xs).cps.size by rw[hz],hd D H2 l hR hD s2 h2⟩
end
section
variable{X:Cx}
theorem ar9{prog:Program}{w:World}{A:Around}{its:Array Value}{bs:List Bool}(r:Vals (bs.map V.bl) its.toList):TruthOf prog w A (λi v=>its[i]? =some v) (λi=>bs.getD i false):=by
 intro i v s Q E hv hq;have hv':its.toList[i]? =some v:=by rw[cI];exact hv
 have hi:i<bs.length:=by
  have h1:=r.length;rw[aR] at h1;rcases cL i its.toList.length with z | z
  ·omega
  ·rw[eE z] at hv';cases hv'
 obtain⟨u,hu,ru⟩:=r.get (i:=i) (x:=V.bl bs[i]) (by rw[bC,bW hi];rfl);rw[hv'] at hu;cases hu;cases ru;have e:bs.getD i false=bs[i]:=by simp[List.getD,bW hi]
 have hq:Q (bs.getD i false) s:=hq;rw[e] at hq;exact fG hq
theorem azE(bs:List Bool):(List.range bs.length).all (λi=>bs.getD i false)=bs.all id:=by
 rw[c8,bV,bV];refine⟨λh b hb=>?_,λh i hi=>?_⟩
 ·obtain⟨i,hi,e⟩:=List.getElem_of_mem hb;have:=h i (cT.mpr hi);rw[show bs.getD i false=bs[i] by simp[List.getD,bW hi],e] at this;exact this
 ·have hi:=cT.mp hi;rw[show bs.getD i false=bs[i] by simp[List.getD,bW hi]];exact h _ (List.getElem_mem hi)
theorem cAll(hc:X.calm=true:=by rfl):Cl1 X (.builtin "all") (λxs H Q=>∃(p:Addr) (bs:List Bool),xs=[.ref p]/\SqL X.K H p (bs.map V.bl)/\Q (.bl (bs.all id)) H):=by
 refine⟨λpins s σ H xs us Q I r h=>?_⟩;obtain⟨p,bs,rfl,hq,q⟩:=h;obtain⟨u,rfl,r1⟩:=acC r;cases r1;obtain⟨its,rv,pl,hz⟩:=I.list hq;have hne:p≠s.heap.objs.size:=by
  obtain⟨o,ho,_⟩:=pl.isList;exact aW (aV ho)
 refine call_all_walk (wpAny_pyIter_list pl.isList ⟨s.heap.objs.size,[s.heap.objs.size,p],[s.heap.objs.size],its.toArray.size,(λi v=>its.toArray[i]? =some v),(λi h=>h.IsListIter s.heap.objs.size p i/\h.IsList p its.toArray),(λi=>bs.getD i false),rfl,Walks.list (prog:=X.prog) (w:=X.w) (A:=X.A.in1) (I.ok.hd hc) _ p hne its.toArray,⟨⟨_,a9 _ rfl,rfl,rfl⟩,pl.isList.push _⟩,ar9 (by simpa using rv),λh' tk hk=>?_⟩)
 have hl:=rv.length;rw[aR] at hl;have e:its.toArray.size=bs.length:=by rw[bI];omega
 rw[e,azE];exact⟨.bl _,H,I.kept λb o eb=>hk b o (by simpa using aW (aV eb)) (aU _ eb),rfl,q⟩
end
end L2
namespace L2
open PySem PySem.Spec PyProof.Rows PySem.Builtin PySem.Builtin.Str
noncomputable def spl(c:Nat):List Nat->List (List Nat)
 |[]=>[[]]
 |x::r=>if x=c then []::spl c r else match spl c r with
  |h::t=>(x::h)::t
  |[]=>[[x]]
noncomputable def aaY(c:Nat):List (List Nat)->List Nat
 |[]=>[]
 |[p]=>p
 |p::r=>p++c::aaY c r
theorem aJC(c:Nat):∀l,spl c l≠[]
 |[]=>by simp[spl]
 |x::r=>by
  unfold spl;split
  ·simp
  ·split<;>simp
theorem adU(c:Nat):∀(p:List Nat),c∉p->spl c p=[p]
 |[],_=>rfl
 |x::r,h=>by
  have h1:¬x=c:=λe=>h (by simp[e]);have h2:=adU c r λe=>h (by simp[e]);unfold spl;rw[if_neg h1,h2]
theorem alR(c:Nat):∀(p r:List Nat),c∉p->spl c (p++c::r)=p::spl c r
 |[],r,_=>by
  show spl c (c::r)=_;unfold spl;rw[if_pos rfl];cases r<;>rfl
 |x::q,r,h=>by
  have h1:¬x=c:=λe=>h (by simp[e]);have h2:=alR c q r λe=>h (by simp[e]);show spl c (x::(q++c::r))=_;rw[spl,if_neg h1,h2]
theorem afH(c:Nat):∀(ps:List (List Nat)),ps≠[]->(∀p∈ps,c∉p)->spl c (aaY c ps)=ps
 |[],h,_=>absurd rfl h
 |[p],_,h=>adU c p (h p (by simp))
 |p::q::r,_,h=>by
  show spl c (p++c::aaY c (q::r))=_;rw[alR c p _ (h p (by simp)),afH c (q::r) (by simp) λz hz=>h z (bF _ hz)]
theorem ap7(c:Nat):∀ps:List Str,(Str.join (Tx [c]) ps).cps.toList=aaY c (ps.map (·.cps.toList))
 |[]=>rfl
 |[p]=>rfl
 |p::q::r=>by
  have ih:=ap7 c (q::r);show (p++Tx [c]++Str.join (Tx [c]) (q::r)).cps.toList=p.cps.toList++c::aaY c ((q::r).map (·.cps.toList));rw[←ih];show ((p.cps++ #[c])++(Str.join (Tx [c]) (q::r)).cps).toList=_;simp
theorem aD0(x y:Str)(h:Txt.split x y=[]):False:=by
 unfold Txt.split at h;split at h
 ·cases h
 ·split at h
  ·cases h
  ·have e:=congrArg List.length h;rw[length_partsBetween] at e;simp at e
theorem aA9(l:List Nat)(c:Nat):(Txt.split (Tx l) (Tx [c])).map (·.cps.toList)=spl c l:=by
 have h1:=StrLaws.join_split (Tx l) (Tx [c]);have h2:=StrLaws.split_free (Tx l) c;have h3:=ap7 c (Txt.split (Tx l) (Tx [c]));rw[h1] at h3;have e:aaY c ((Txt.split (Tx l) (Tx [c])).map (·.cps.toList))=l:=by rw[←h3]
 rw[←afH c ((Txt.split (Tx l) (Tx [c])).map (·.cps.toList)) (λz=>aD0 _ _ (List.map_eq_nil_iff.mp z)) ?_,e];intro p hp;obtain⟨z,hz,rfl⟩:=bD.mp hp;exact h2 z hz
theorem azG(l:List Nat)(c:Nat):Txt.split (Tx l) (Tx [c])=(spl c l).map Tx:=by
 rw[←aA9,bY];have:∀ps:List Str,ps=ps.map ((λw:List Nat=>Tx w) ∘ λx=>x.cps.toList):=λps=>by
  induction ps with
  |nil=>rfl
  |cons a r ih=>rw[bG,←ih];simp
 exact this _
theorem ao9:∀l:List (Str×Tok),Vals (l.map λp=>V.str p.1) (strValues l)
 |[]=>.nil
 |p::r=>.cons ⟨p.2,rfl⟩ (ao9 r)
section
variable{prog:Program}{w:World}{A:Around}{E:Value->Shared->Prop}{s:Shared}{x y:Str}{t u:Tok}{Q:Value->Shared->Prop}
theorem au7(hy:(y.length==0)=false)(hsz:x.length+2<=sizeLine)
  (h:∀l k,l.map (·.1)=Txt.split x y->Q (.ref s.heap.objs.size) {s with heap:=s.heap.push {cls:=.type "list",data:=.seq (strValues l).toArray},toks:=k}):
  wpAny (model prog w) A (call (.builtin "str.split") [.str x t,.str y u]) Q E s:=by
 have hn:(partsBetween x (occurrences x y 0 x.length (x.length+1)) y.length).length<=sizeLine:=by
  have e1:=StrLaws.occ_length_le x y 0 x.length (x.length+1);rw[length_partsBetween];omega
 cases h1:(decide (x.length<y.length)||decide (strKind x<strKind y))
 ·cases hf:(occurrences x y 0 x.length (x.length+1)).isEmpty
  ·refine call_meets F.slot_str_split (typeIs_str _ _ _) F.entry_str_split (F.args_str_split_2 _ _) (meets_str_split_sep x y t u h1 hy hf ⋯ hn) ?_;show wants Q E _ {s with toks:=_,heap:=s.heap.push {cls:=.type "list",data:=.seq (strsFrom s.toks (partsBetween x (occurrences x y 0 x.length (x.length+1)) y.length)).toArray} };rw[strsFrom_eq];exact h (numbered s.toks _) _ ((numbered_texts _ _).trans ((if_neg (ne_true_of_eq_false h1)).trans (if_neg (ne_true_of_eq_false hf))).symm)
  ·exact call_meets F.slot_str_split (typeIs_str _ _ _) F.entry_str_split (F.args_str_split_2 _ _) (meets_str_split_not_found x y t u h1 hy hf)
    (h [(x,t)] s.toks ((if_neg (ne_true_of_eq_false h1)).trans (if_pos hf)).symm)
 ·exact call_meets F.slot_str_split (typeIs_str _ _ _) F.entry_str_split (F.args_str_split_2 _ _) (meets_str_split_cannot_occur x y t u h1)
   (h [(x,t)] s.toks (if_pos h1).symm)
end
theorem aiE(c:Nat):∀l,(spl c l).length<=l.length+1
 |[]=>by simp[spl]
 |x::r=>by
  have ih:=aiE c r;unfold spl;split
  ·simp;omega
  ·split
   ·rename_i e;rw[e] at ih;simp at ih ⊢;omega
   ·simp
section
variable{X:Cx}
def aB6:V->List V->Hp->VK->Prop:=λx vs H Q=>∃(l:List Nat) (c:Nat),x=.str (Tx l)/\vs=[.str (Tx [c])]/\l.length+2<=sizeLine/\∀p,H p=none->Q (.ref p) (upd H p (.lst ((spl c l).map λq=>V.str (Tx q))))
theorem aDM:MtR X "str.split" aB6:=by
 intro pins s σ H x xs v us Q I rx rv h;obtain⟨l,c,rfl,rfl,hz,q⟩:=h;obtain⟨u,rfl,t',rfl⟩:=acC rv;obtain⟨t,rfl⟩:=rx;refine au7 (by rfl) (by rw[abP];exact hz) λps k e=>?_;have e2:ps.map (λp=>V.str p.1)=(spl c l).map λq=>V.str (Tx q):=by
  have:=congrArg (List.map V.str) e;rw[azG,bY,bY] at this;exact this
 have hl:((spl c l).map λq=>V.str (Tx q)).length<=sizeLine:=by
  have:=aiE c l;rw[aR];omega
 refine⟨.ref s.heap.objs.size,upd H s.heap.objs.size (.lst ((spl c l).map λq=>V.str (Tx q))),I.laid (t':=k) (λb u e=>aU _ e) (aQ _) ?_,rfl,q _ (I.hok.fresh (aQ _))⟩;exact⟨hl,strValues ps,0,by rw[←e2];exact ao9 ps,a9 _ rfl⟩
theorem az5{o e:Expr}{to te:TE}{apos cpos:Pos}(ho:E X o to)(he:E X e te)(hbase:attributeBase o "split" X.env (eval o X.env)=eval o X.env:=by rfl)
  (hfew:((backTo cpos (starEach [e] X.env)).all (λx=> !x.1)&&(backToKw cpos (keywordEach [] X.env)).all (λx=>x.1.isSome)&&decide (([e]:List Expr).length+([]:List Keyword).length+(if ([]:List Keyword).isEmpty then 0 else 1)<30))=true:=by rfl)
  (hline:(apos.endLine==cpos.line)=true:=by rfl) (hs:starEach [e] X.env=(false,eval e X.env)::starEach [] X.env:=by rfl) (hplain:(backTo cpos (starEach [] X.env)).any (·.1)=false:=by rfl):
  E X (.Call (.Attribute o "split" apos) [e] [] cpos) (tBM X.K "str" aB6 to (acV te aiM)):=
 ⟨asR PySem.F.plainAttrs_str PySem.F.slot_str_split PySem.F.type_str_split aDM ho.h (adN he.h afL hs) hbase hfew hline hs hplain⟩
theorem oInX:Op2 X (compareOp .In) (λx y H Q=>∃(c:Nat) (l:List Nat),x=.str (Tx [c])/\y=.str (Tx l)/\Q (.bl (decide (c∈l))) H):=by
 refine⟨λpins s σ H x y v u Q I rx ry h=>?_⟩;obtain⟨c,l,rfl,rfl,q⟩:=h;refine ay2 pins s σ H _ _ v u Q I rx ry ⟨(()),?_⟩;rw[show (!(occurrences (Tx l) (Tx [c]) 0 (Tx l).length 1).isEmpty)=decide (c∈(Tx l).cps.toList) from StrLaws.found_one (Tx l) c];exact q
theorem aCY:Cl1 X (.builtin "len") (λxs H Q=>∃l:List Nat,xs=[.str (Tx l)]/\l.length<=sizeLine/\Q (.int l.length) H):=by
 refine⟨λpins s σ H xs us Q I r h=>?_⟩;obtain⟨l,rfl,hz,q⟩:=h;refine ar3 pins s σ H _ us Q I r ⟨Tx l,rfl,by rw[abP];exact hz,?_⟩;rw[abP];exact q
theorem ac5:Op2 X (binaryOp .Add) (λx y H Q=>∃a b:List Nat,x=.str (Tx a)/\y=.str (Tx b)/\a.length+b.length<=sizeLine/\Q (.str (Tx (a++b))) H):=by
 refine⟨λpins s σ H x y v u Q I rx ry h=>?_⟩;obtain⟨a,b,rfl,rfl,hz,q⟩:=h;refine au0 pins s σ H _ _ v u Q I rx ry ⟨(()),by rw[abP,abP];exact hz,?_⟩;have e:Tx a++Tx b=Tx (a++b):=by show Str.mk _=Str.mk _;simp
 rw[e];exact q
theorem xX:Ixs X (λx y H Q=>∃(l:List Nat) (i:Int) (c:Nat),x=.str (Tx l)/\y=.int i/\l.length<=sizeLine/\atI l i=some c/\Q (.str (Tx [c])) H):=by
 refine⟨λvalue slice pins s σ H x y v u Q I rx ry h hs=>?_⟩;obtain⟨l,i,c,rfl,rfl,hz,ha,q⟩:=h;exact aKZ value slice pins s σ H _ _ v u Q I rx ry ⟨Tx l,i,c,rfl,rfl,by rw[abP];exact hz,by simpa using ha,q⟩ hs
end
end L2
namespace L2
open PySem PySem.Spec PyProof.Rows PySem.Builtin PySem.Builtin.Str
section
variable{X:Cx}{pins:List (Addr×Obj)}{σ:St}{H:Hp}{s:Shared}{h':Heap}
theorem Inv.turnT{ch:List Addr}{T:Addr}{o:HO}{t':Nat}(I:Inv X pins σ H s)(k:∀b u,b∉ch->s.heap.get? b=some u->h'.get? b=some u)(hch:∀b∈ch,ahT X pins H b)(hT:s.heap.objs.size<=T)(new:ObjOk X.prog X.w (upd H T o) h' T o):
  Inv X pins σ (upd H T o) {s with heap:=h',toks:=t'}:=by
 have hn:=I.hok.fresh hT;have nit:∀b u,H b=some u->b∉ch:=λb u e z=>by rw[(hch b z).1] at e;cases e
 refine I.step (g':=s.gens) (d':=s.drawn) (ch:=ch) (λb hb=>?_) (λb u _ _ hc e _=>k b u hc e) (λb u _ _ hc e _=>⟨u.slots,k b u hc e⟩) (λb u _ e n=>?_)
  (λb u hc e=>⟨u,k b u hc e⟩) (λb xs e=>by rw[aaD (aaJ e hn)];exact e) (λb u xs e=>by rw[aaD (aaJ e hn)];exact e) (λb ps e=>⟨#[],by rw[aaD (aaJ e hn),e];simp⟩) (λm hm=>?_) (λb u e=>?_) I.bare
 ·obtain⟨f0,f1,f2,f3,f4,f5⟩:=hch b hb;exact⟨f3,f1,f4,f5⟩
 ·rw[aaD (aW (bA (aV e) hT))];exact n
 ·obtain⟨ob,es,ep,ho,r⟩:=hm;exact⟨ob,es,ep,k _ ob (λz=>(hch _ z).2.1 rfl) ho,r⟩
 ·by_cases hb:b=T
  ·subst hb;rw[aaA] at e;cases e;exact new
  ·rw[aaD hb] at e;refine (I.hok b u e).stay (λc v hc q=>k c v ?_ q) (λc q=>by rw[aaD (aaJ q hn)];exact q) λc xs q=>by rw[aaD (aaJ q hn)];exact q
   rcases hc with z | z
   ·rw[z];exact nit b u e
   ·exact nit c _ z
theorem Inv.turnN{ch:List Addr}{t':Nat}(I:Inv X pins σ H s)(k:∀b u,b∉ch->s.heap.get? b=some u->h'.get? b=some u)(hch:∀b∈ch,ahT X pins H b):Inv X pins σ H {s with heap:=h',toks:=t'}:=by
 have nit:∀b u,H b=some u->b∉ch:=λb u e z=>by rw[(hch b z).1] at e;cases e
 refine I.step (g':=s.gens) (d':=s.drawn) (ch:=ch) (λb hb=>?_) (λb u _ _ hc e _=>k b u hc e) (λb u _ _ hc e _=>⟨u.slots,k b u hc e⟩) (λb u _ e n=>n)
  (λb u hc e=>⟨u,k b u hc e⟩) (λb xs e=>e) (λb u xs e=>e) (λb ps e=>⟨#[],by rw[e];simp⟩) (λm hm=>?_) (λb u e=>?_) I.bare
 ·obtain⟨f0,f1,f2,f3,f4,f5⟩:=hch b hb;exact⟨f3,f1,f4,f5⟩
 ·obtain⟨ob,es,ep,ho,r⟩:=hm;exact⟨ob,es,ep,k _ ob (λz=>(hch _ z).2.1 rfl) ho,r⟩
 ·refine (I.hok b u e).stay (λc v hc q=>k c v ?_ q) (λc q=>q) λc xs q=>q;rcases hc with z | z
  ·rw[z];exact nit b u e
  ·exact nit c _ z
end
noncomputable def Ite(K:FG)(a:Addr):It:=
 ⟨λi H=>∃xs x,SqL K H a xs/\xs[i]? =some x,λi H v H'=>∃T,v=.ref T/\H T=none/\∀xs,SqL K H a xs->∃x,xs[i]? =some x/\H'=upd H T (.tup [.int i,x]),λi H=>∃xs,SqL K H a xs/\xs.length=i⟩
theorem ay8{P:Program}{w:World}{K:FG}{es:List Expr}{kk:Nat}{pos:Pos}(a e it:Addr)(hne:e≠it):Turn P w K (.Tuple es kk pos) (Ite K a) [e,it] e (λi h=>(∃old,IsEnum h e it i old)/\h.IsListIter it a i) where
 mem:=by simp
 obj:=λi h st b hb=>by
  obtain⟨⟨old,he⟩,o,e1,c,d⟩:=st;rcases aX.mp hb with z | z
  ·subst z;exact⟨_,he,λv q=>by
    have q':Data.fields _=Data.cell v:=q;cases q'⟩
  ·have z:b=it:=by simpa using z
   subst z;exact⟨o,e1,λv q=>by rw[d] at q;cases q⟩
 keep:=λi h h' st k=>by
  obtain⟨⟨old,he⟩,hit⟩:=st;exact⟨⟨old,k e (by simp) _ he⟩,hit.at λo q=>k it (by simp) o q⟩
 item:=by
  intro X hP hw hK hc i pins s σ H E I hf st hg;subst hP hw hK;obtain⟨xs,x,hq,hx⟩:=hg;obtain⟨⟨old,he⟩,hit⟩:=st;obtain⟨its,rv,p,hz⟩:=I.list hq;obtain⟨u,hu,ru⟩:=rv.get hx;refine wpAny_pyNext_enum_item he hit p.isList (x:=u) (by simpa using hu) hne λh1 ho hit1 hT hsz hk=>?_;refine⟨(),wpAny_letOwnedTupleGo_enum ho λh2 he2 sb=>?_⟩;have ele:e<s.heap.objs.size:=aV he;have k2:∀b ob,b∉[e,it]->s.heap.get? b=some ob->h2.get? b=some ob:=λb ob hb q=>by
   have n1:b≠e:=λz=>hb (by simp[z]);have n2:b≠it:=λz=>hb (by simp[z]);exact (sb.2 b n1).trans (hk b ob n1 n2 q)
  have hTn:s.heap.objs.size≠e:=Nat.ne_of_gt ele;have hT2:h2.get? s.heap.objs.size=some {cls:=.type "tuple",data:=.seq #[.int i s.toks,u]}:=(sb.2 _ hTn).trans hT;have hn:=I.hok.fresh (aQ s.heap.objs.size);have I2:Inv X pins σ (upd H s.heap.objs.size (.tup [.int i,x])) {s with heap:=h2,toks:=s.toks+1}:=I.turnT k2 hf (aQ _) ⟨by show 2<=sizeLine;decide,[.int i s.toks,u],.cons ⟨()⟩ (.cons ru .nil),⟨_,hT2,rfl,()⟩⟩
  refine⟨.ref s.heap.objs.size,_,I2,rfl,⟨s.heap.objs.size,rfl,hn,λys hy=>⟨x,by rw[I.list_inj hy hq];exact hx,rfl⟩⟩,⟨⟨_,by simpa using he2⟩,hit1.at λo q=>(sb.2 it (Ne.symm hne)).trans q⟩,λb hb=>?_⟩;have hblt:b<s.heap.objs.size:=by
   rcases aX.mp hb with z | z
   ·rw[z];exact ele
   ·have z:b=it:=by simpa using z
    obtain⟨o,q,_⟩:=hit;rw[z];exact aV q
  rw[aaD (aW hblt)];exact (hf b hb).1
 done:=by
  intro X hP hw hK hc i pins s σ H E I hf st hg;subst hP hw hK;obtain⟨xs,hq,hx⟩:=hg;obtain⟨⟨old,he⟩,hit⟩:=st;obtain⟨its,rv,p,hz⟩:=I.list hq;have hl:=rv.length;refine wpAny_pyNext_enum_end (I.ok.hd hc) he hit p.isList (by simp;omega) λh' hk=>⟨rfl,?_⟩;exact I.turnN (ch:=[e,it]) (t':=s.toks) (λb ob hb q=>hk b ob (λz=>hb (by simp[z])) q) hf
 self:=λ_ _ _ _ _ st h=>by
  obtain⟨⟨old,he⟩,_⟩:=st;exact wpAny_pyIter_enum he h
section
variable{X:Cx}{es:List Expr}{kk:Nat}{tpos:Pos}
def iEnu(K:FG)(tl:TE):TI:=λσ H R=>tl σ H λx H1=>∃a,x=.ref a/\(∃xs,SqL K H1 a xs)/\R (Ite K a) H1
theorem ay6:bootBuiltins "enumerate"=some (.type "enumerate"):=by decide +kernel
theorem iE{l:Expr}{tl:TE}{p pos:Pos}(hm:X.mg "enumerate"=none)(hl:E X l tl)(hg:Gl X "enumerate":=by rfl)(hs:starEach [l] X.env=[(false,eval l X.env)]:=by rfl):
  Il X (.Tuple es kk tpos) (.Call (.Name "enumerate" p) [l] [] pos) (iEnu X.K tl):=by
 refine⟨λpins s σ H R I h=>?_⟩;have hA:PA X [l] (acV tl aiM):=adN hl.h afL hs;refine Call_ (ahB I hg hm ay6 (PyProof.Rows.callWith_type1 (thn (hA pos pins s σ H (λvs H1=>match vs with | [x]=>∃a,x=.ref a/\(∃xs,SqL X.K H1 a xs)/\R (Ite X.K a) H1 | _=>False) I ?_) λus s1 ⟨vs,H1,I1,r1,q1⟩=>?_) hs rfl))
 ·exact h
 match vs,q1,r1 with
 |[x],q1,r1=>?_
 obtain⟨a,rfl,⟨xs,hq⟩,q⟩:=q1;obtain⟨u,rfl,rx⟩:=acC r1;cases rx;obtain⟨its,rv,pl,hz⟩:=I1.list hq;refine call_enumerate_list pl.isList λh' he hit hsz hk=>?_;refine wpAny_pyIter_enum he ?_;have I2:Inv X pins σ H1 {s1 with heap:=h'}:=I1.kept (t':=s1.toks) hk;have hne:s1.heap.objs.size+1≠s1.heap.objs.size:=Nat.ne_of_gt (dD _);refine⟨s1.heap.objs.size+1,[s1.heap.objs.size+1,s1.heap.objs.size],_,_,H1,rfl,I2,ay8 a _ _ hne,⟨⟨_,he⟩,hit⟩,λb hb=>?_,q⟩
 have hb2:s1.heap.objs.size<=b:=by
  rcases aX.mp hb with z | z
  ·rw[z];exact Nat.le_succ _
  ·have z:b=s1.heap.objs.size:=by simpa using z
   rw[z];exact aQ _
 exact I1.fpOk hb2 (I1.hok.fresh hb2)
end
theorem amH{K:FG}{a:Addr}{xs:List V}{g:TG}{tb:TS}{D:Ends}{σ:St}{H:Hp}(Pv:Nat->St->Hp->Prop)(h0:Pv 0 σ H)(hl:∀i σ H,i<=xs.length->Pv i σ H->SqL K H a xs)
  (hs:∀i x σ H T,xs[i]? =some x->Pv i σ H->H T=none->g (.ref T) σ (upd H T (.tup [.int i,x])) λσ2 H2=>tb {D with nx:=Pv (i+1),ct:=Pv (i+1),bk:=D.nx} σ2 H2) (hd:∀σ H,Pv xs.length σ H->D.nx σ H):
  ∃W:Nat->Nat->St->Hp->Prop,(∃m,W 0 m σ H)/\∀i m σ H,W i m σ H->
   ((Ite K a).stop i H/\D.nx σ H)∨((Ite K a).go i H/\∃N:St->Hp->Prop,(∀σ' H',N σ' H'->∃m',m'<m/\W (i+1) m' σ' H')/\∀x H',(Ite K a).yld i H x H'->g x σ H' λσ2 H2=>tb {D with nx:=N,ct:=N,bk:=D.nx} σ2 H2):=by
 refine⟨λi m σ H=>m=xs.length-i/\i<=xs.length/\Pv i σ H,⟨xs.length,by simp,bM _,h0⟩,?_⟩;rintro i m σ H ⟨rfl,hi,p⟩;have hq:=hl i σ H hi p;by_cases hlt:i<xs.length
 ·refine .inr ⟨⟨xs,xs[i],hq,by simp[hlt]⟩,Pv (i+1),λσ' H' p'=>⟨xs.length-(i+1),⋯,rfl,hlt,p'⟩,λx H' y=>?_⟩;obtain⟨T,rfl,hT,hy⟩:=y;obtain⟨x,hx,rfl⟩:=hy xs hq;exact hs i x σ H T hx p hT
 ·have e:i=xs.length:=⋯;subst e;exact .inl ⟨⟨xs,hq,rfl⟩,hd σ H p⟩
noncomputable def num(m:Nat):List Nat:=(Nat.toDigits 10 m).map Char.toNat
section
variable{X:Cx}
theorem aN5:Cl1 X (.type "int") (λxs H Q=>∃l:List Nat,xs=[.str (Tx l)]/\PySem.NumText.AllDigits l/\l≠[]/\l.length<=640/\Q (.int ((PySem.NumText.digitsVal l:Nat):Int)) H):=by
 refine⟨λpins s σ H xs us Q I r h=>?_⟩;obtain⟨l,rfl,h1,h2,h3,q⟩:=h;obtain⟨u,rfl,t,rfl⟩:=acC r;refine PySem.W.KIN.call_text (PySem.intText_digits (x:=Tx l) (by simpa using h1) (by simpa using h2) (by rw[abP];omega)) (by rw[abP];exact h3) ?_;exact⟨.int _,H,I.tok _,⟨()⟩,by simpa using q⟩
theorem ac1:Cl1 X (.type "str") (λxs H Q=>∃n:Nat,xs=[.int n]/\n<10^500/\Q (.str (Tx (num n))) H):=by
 refine⟨λpins s σ H xs us Q I r h=>?_⟩;obtain⟨n,rfl,hn,q⟩:=h;refine arD pins s σ H _ us Q I r ⟨(n:Int),rfl,?_,?_⟩
 ·by_cases h0:n=0
  ·subst h0;decide
  ·have:n<2^1900:=bA hn (by decide +kernel);have:=(Nat.log2_lt h0).mpr this;show (n:Int).natAbs.log2<1920;simp only[Int.natAbs_natCast];omega
 ·have e:PySem.Str.ofString (toString (n:Int))=Tx (num n):=by
   rw[←aG3 (PySem.Str.ofString (toString (n:Int)))];exact congrArg (λz=>Tx z) (PySem.W.KIN.signs_num n)
  show Q (.str (PySem.Str.ofString (toString (n:Int)))) H;rw[e];exact q
end
end L2
namespace L2
open PySem PySem.Spec PyProof.Rows PySem.Builtin PySem.Builtin.Str
theorem ifT{b:Bool}{A B:Prop}(e:b=true)(h:A):if b=true then A else B:=by rw[if_pos e];exact h
theorem ifF{b:Bool}{A B:Prop}(e:b=false)(h:B):if b=true then A else B:=by rw[if_neg (by rw[e];exact a8)];exact h
theorem if2{b:Bool}{A B:Prop}(h1:b=true->A)(h2:b=false->B):if b=true then A else B:=by
 cases b
 ·exact ifF rfl (h2 rfl)
 ·exact ifT rfl (h1 rfl)
theorem aC9(a b:List Nat):decide (V.str (Tx a)=V.str (Tx b))=decide (a=b):=decide_eq_decide.mpr ⟨λh=>Tx_inj.mp (V.str.inj h),λh=>by rw[h]⟩
section
variable{X:Cx}{pos:Pos}
theorem eSx{z:Str}{j}(l:List Nat)(h:z=Tx l:=by decide +kernel):E X (.Constant (.str z) j pos) (tC (.str (Tx l))):=by
 subst h;exact⟨aC6⟩
end
noncomputable def ae8(c:Nat):Bool:=decide (48<=c)&&decide (c<=57)
noncomputable def aEF:List Nat:=[48,49,50,51,52,53,54,55,56,57]
theorem aDX:∀c:Nat,c<58->decide (c∈aEF)=ae8 c:=by decide
theorem aBO(c:Nat):decide (c∈aEF)=ae8 c:=by
 rcases cL c 58 with h | h
 ·exact aDX c h
 ·have n:∀x∈aEF,x<58:=by decide
  unfold ae8;rw[fC (λz=>absurd (n c z) (Nat.not_lt.mpr h)),fC (show ¬c<=57 from Nat.not_le.mpr h),cM]
noncomputable def aqY(l:List Nat):Bool:= !decide (l=[])&&l.all ae8
noncomputable def isW(l:List Nat):Bool:=aqY l&&(decide (l=[48])|| !decide (l.headD 0=48))
noncomputable def dv(l:List Nat):Int:=((PySem.NumText.digitsVal l:Nat):Int)
noncomputable def aaW(lo hi:Int)(l:List Nat):Option Int:=if isW l=true then (if lo<=dv l/\dv l<=hi then some (dv l) else none) else none
noncomputable def oV:Option Int->V
 |none=>.non
 |some n=>.int n
noncomputable def akO(es:List (Option Int)):Option (Int×Int):=match es with
 |[some a]=>some (a,a)
 |[some a,some b]=>if b<a then none else some (a,b)
 |_=>none
noncomputable def aa0(lo hi:Int)(l:List Nat):Option (Int×Int):=if l=[42] then some (lo,hi) else akO ((spl 45 l).map (aaW lo hi))
@[irreducible] noncomputable def adS(a b s:Int):List Int:=(List.range (Builtin.Range.rangeSize a (b+1) s).toNat).map λi:Nat=>a+(i:Int)*s
theorem acY(a b s:Int):adS a b s=(List.range (Builtin.Range.rangeSize a (b+1) s).toNat).map λi:Nat=>a+(i:Int)*s:=by rw[adS]
noncomputable def alC(a b s:Int):Int:=aaG (adS a b s)
noncomputable def abZ(lo hi:Int)(r s:List Nat):Option Int:=
 match aa0 lo hi r,aaW 1 99 s with
 |some (a,b),some st=>some (alC a (if isW r=true then hi else b) st)
 |_,_=>none
noncomputable def aaL(lo hi:Int)(l:List Nat):Option Int:=
 match spl 47 l with
 |[r,s]=>abZ lo hi r s
 |_=>match aa0 lo hi l with
  |some (a,b)=>some (alC a b 1)
  |none=>none
theorem av9{l:List Nat}(h:isW l=true):PySem.NumText.AllDigits l/\l≠[]:=by
 unfold isW aqY at h;rw[bH,bH] at h;refine⟨λc hc=>?_,λe=>?_⟩
 ·have:=bV.mp h.1.2 c hc;unfold ae8 at this;rw[bH] at this;exact⟨eY this.1,eY this.2⟩
 ·rw[eZ e] at h;exact absurd h.1.1 (by decide)
theorem alP{a b s:Int}(hs:0<s):Builtin.Range.rangeSize a (b+1) s=if a<=b then (b-a) / s+1 else 0:=by
 unfold Builtin.Range.rangeSize;rw[if_pos hs];by_cases c:a<=b
 ·rw[if_pos c,if_pos ⋯,show b+1-a-1=b-a by omega]
 ·rw[if_neg c,if_neg ⋯]
theorem aqG{a b s z:Int}(hs:0<s):z∈adS a b s↔a<=z/\z<=b/\(z-a)%s=0:=by
 rw[acY,bD,alP hs];refine⟨λ⟨i,hi,e⟩=>?_,λ⟨h1,h2,h3⟩=>?_⟩
 ·subst e;by_cases c:a<=b
  ·rw[if_pos c,cT] at hi;have hq:(i:Int)<=(b-a) / s:=by
    have:0<=(b-a) / s:=dW ⋯ ⋯;omega
   have hm:(i:Int)*s<=(b-a) / s*s:=Int.mul_le_mul_of_nonneg_right hq ⋯;have hd:(b-a) / s*s<=b-a:=Int.ediv_mul_le _ ⋯;have h0:0<=(i:Int)*s:=Int.mul_nonneg ⋯ ⋯;refine⟨⋯,⋯,?_⟩;rw[show a+(i:Int)*s-a=(i:Int)*s by omega];exact Int.mul_emod_left _ _
  ·rw[if_neg c,cT] at hi;exact absurd hi (by simp)
 ·rw[if_pos ⋯];have hd:s*((z-a) / s)+(z-a)%s=z-a:=Int.mul_ediv_add_emod _ _;rw[h3,Int.add_zero] at hd;have h0:0<=(z-a) / s:=dW ⋯ ⋯;have hle:(z-a) / s<=(b-a) / s:=Int.ediv_le_ediv hs ⋯;refine⟨((z-a) / s).toNat,cT.mpr ⋯,?_⟩;rw[bK h0,Int.mul_comm];omega
theorem aeG{a b s:Int}(h0:0<=a)(h1:b<=1000)(hs:0<s):(Builtin.Range.rangeSize a (b+1) s).toNat<=1001/\Builtin.Range.rangeSize a (b+1) s=((Builtin.Range.rangeSize a (b+1) s).toNat:Int):=by
 have hz:=ax3 (a:=a) (b:=b+1) hs;refine⟨?_,⋯⟩;rw[alP hs];split
 ·have:(b-a) / s<=b-a:=Int.ediv_le_self _ ⋯;omega
 ·decide
theorem ad1{a b s:Int}(h0:0<=a)(ha:a<=1000)(h1: -1<=b)(hb:b<=1000)(hs:0<s)(hs2:s<=1000):Builtin.Range.small a (b+1) s=true:=by
 have hl:=aeG h0 hb hs;have hz:=ax3 (a:=a) (b:=b+1) hs;unfold Builtin.Range.small;simp only[Builtin.Range.rangeFitsLong,bH,cW,fB,beq_iff_eq];refine⟨⟨⟨⟨?_,?_⟩,?_⟩,?_⟩,.inr ?_⟩
 ·exact⟨⋯,⋯⟩
 ·exact⟨⋯,⋯⟩
 ·exact⟨⋯,⋯⟩
 ·exact⟨⋯,⋯⟩
 ·rw[if_pos hs];simp only[bH,fB];exact⟨⋯,⋯⟩
end L2
namespace L2
open PySem PySem.Spec PyProof.Rows PySem.Builtin PySem.Builtin.Str
theorem atM{lo hi a:Int}{l:List Nat}(h:aaW lo hi l=some a):lo<=a/\a<=hi:=by
 unfold aaW at h;split at h
 ·split at h
  ·rename_i c;have:=aZ h;omega
  ·cases h
 ·cases h
theorem anH{lo hi a b:Int}{l:List Nat}(hle:lo<=hi)(h:aa0 lo hi l=some (a,b)):(lo<=a/\a<=hi)/\lo<=b/\b<=hi:=by
 unfold aa0 at h;split at h
 ·cases h;omega
 ·have key:∀es:List (Option Int),(∀e∈es,∀x,e=some x->lo<=x/\x<=hi)->akO es=some (a,b)->(lo<=a/\a<=hi)/\lo<=b/\b<=hi:=by
   intro es hb h
   match es,hb,h with
   |[some x],hb,h=>
    have h:some (x,x)=some (a,b):=h;cases h;have:=hb _ (by simp) a rfl;exact⟨this,this⟩
   |[some x,some y],hb,h=>
    have h:(if y<x then none else some (x,y))=some (a,b):=h;split at h
    ·cases h
    ·cases h;exact⟨hb (some a) (by simp) a rfl,hb (some b) (by simp) b rfl⟩
   |[],_,h=>cases h
   |[none],_,h=>cases h
   |[none,y],_,h=>cases h
   |[some x,none],_,h=>cases h
   |x::y::u::r,_,h=>cases x<;>cases y<;>cases h
  refine key _ (λe he x hx=>?_) h;obtain⟨w,_,rfl⟩:=bD.mp he;exact atM hx
noncomputable def orM(ms:List Int):Int:=ms.foldl (λa m=>Builtin.bitOr a m) 0
theorem afC(ms:List Int)(m:Int):orM (ms++[m])=Builtin.bitOr (orM ms) m:=by unfold orM;rw[List.foldl_append];rfl
theorem amK:∀(ms:List Int) (a:Int),0<=a->(∀m∈ms,0<=m)->0<=ms.foldl (λa m=>Builtin.bitOr a m) a/\∀i,tb (ms.foldl (λa m=>Builtin.bitOr a m) a) i=(tb a i||ms.any λm=>tb m i)
 |[],a,h,_=>⟨h,λi=>by simp⟩
 |m::ms,a,h,hm=>by
  have hp:=hm m (by simp);obtain⟨h1,h2⟩:=amK ms (Builtin.bitOr a m) (aj6 h hp) λz hz=>hm z (by simp[hz]);refine⟨h1,λi=>?_⟩;show tb (ms.foldl _ (Builtin.bitOr a m)) i=_;rw[h2 i,apH h hp,bQ,Bool.or_assoc]
theorem acO{ms:List Int}(h:∀m∈ms,0<=m):0<=orM ms:=(amK ms 0 (aS 0) h).1
theorem ab5{ms:List Int}(h:∀m∈ms,0<=m)(i:Nat):tb (orM ms) i=ms.any λm=>tb m i:=by
 have:=(amK ms 0 (aS 0) h).2 i;rw[aaQ,dG] at this;exact this
noncomputable def ad8(lo hi:Int)(l:List Nat):List Int:=(spl 44 l).map λw=>(aaL lo hi w).getD 0
def aw4(lo hi:Int)(l:List Nat):Prop:=(spl 44 l).length<=40/\∀w∈spl 44 l,(aaL lo hi w).isSome=true
theorem ajS:∀n:Nat,n<100->isW (num n)=true/\dv (num n)=(n:Int)/\((num n).all λc=>ae8 c)=true/\(num n).length<=2:=by decide +kernel
theorem abL{n c:Nat}(h:n<100)(hc:ae8 c=false):c∉num n:=λhm=>by
 have:=bV.mp (ajS n h).2.2.1 c hm;rw[hc] at this;cases this
theorem aKF{n:Nat}(h:n<100):num n≠[42]:=λe=>by
 have:=abL h (c:=42) (by decide);rw[e] at this;exact this (by simp)
theorem af3{n:Nat}{lo hi:Int}(h:n<100)(h1:lo<=n)(h2:(n:Int)<=hi):aaW lo hi (num n)=some (n:Int):=by
 obtain⟨a,b,_⟩:=ajS n h;unfold aaW;rw[if_pos a,b,if_pos ⟨h1,h2⟩]
theorem aKQ{l:List Nat}{c:Nat}(hm:c∈l)(hc:ae8 c=false):isW l=false:=by
 cases e:isW l
 ·rfl
 ·unfold isW aqY at e;rw[bH,bH] at e;have:=bV.mp e.1.2 c hm;rw[hc] at this;cases this
theorem ayI{n:Nat}{lo hi:Int}(h:n<100)(h1:lo<=n)(h2:(n:Int)<=hi):aa0 lo hi (num n)=some ((n:Int),(n:Int)):=by
 unfold aa0;rw[if_neg (aKF h),adU 45 _ (abL h (by decide))];show akO [aaW lo hi (num n)]=_;rw[af3 h h1 h2];rfl
theorem ax5{n m:Nat}{lo hi:Int}(h:n<100)(h':m<100)(h1:lo<=n)(h2:n<=m)(h3:(m:Int)<=hi):aa0 lo hi (num n++45::num m)=some ((n:Int),(m:Int)):=by
 unfold aa0;rw[if_neg (λe=>by (have:45∈num n++45::num m:=(by simp));rw[e] at this;simp at this),alR 45 _ _ (abL h (by decide)),adU 45 _ (abL h' (by decide))];show akO [aaW lo hi (num n),aaW lo hi (num m)]=_;rw[af3 h h1 ⋯,af3 h' ⋯ h3];show (if (m:Int)<n then none else some ((n:Int),(m:Int)))=_;rw[if_neg ⋯]
theorem auN{lo hi:Int}:aa0 lo hi [42]=some (lo,hi):=by unfold aa0;rw[if_pos rfl]
theorem am5{lo hi a b:Int}{r:List Nat}(hf:47∉r)(h:aa0 lo hi r=some (a,b)):aaL lo hi r=some (alC a b 1):=by
 unfold aaL;rw[adU 47 r hf,h]
theorem amI{lo hi a b:Int}{r:List Nat}{s:Nat}(hf:47∉r)(h:aa0 lo hi r=some (a,b))(hs:s<100)(hs1:1<=s):aaL lo hi (r++47::num s)=some (alC a (if isW r=true then hi else b) s):=by
 unfold aaL;rw[alR 47 r _ hf,adU 47 _ (abL hs (by decide))];show abZ lo hi r (num s)=_;unfold abZ;rw[h,af3 hs ⋯ ⋯]
end L2
namespace L2
open PySem PySem.Spec PyProof.Rows PySem.Builtin PySem.Builtin.Str
theorem asM:∀{ws:List (List Nat)} {vs:List Value},Vals (ws.map λq=>V.str (Tx q)) vs->StrsAre vs (ws.map Tx)
 |[],[],_=>.nil
 |[],_::_,h=>nomatch h
 |_::_,[],h=>nomatch h
 |w::r,v::vs,.cons h t=>by
  obtain⟨k,rfl⟩:=h;exact .cons (Tx w) k (asM t)
theorem aEI(c:Nat)(ws:List (List Nat)):Txt.join (Tx [c]) (ws.map Tx)=Tx (aaY c ws):=by
 have e1:Txt.join (Tx [c]) (ws.map Tx)=Str.join (Tx [c]) (ws.map Tx):=StrLaws.glued_eq_join _ _;have e2:=ap7 c (ws.map Tx);rw[bY] at e2;have e3:ws.map ((λx:Str=>x.cps.toList) ∘ Tx)=ws:=by
  have:∀l:List (List Nat),l.map ((λx:Str=>x.cps.toList) ∘ Tx)=l:=λl=>by
   induction l with
   |nil=>rfl
   |cons a r ih=>rw[bG,ih];simp
  exact this ws
 rw[e3] at e2;rw[e1,←aG3 (Str.join (Tx [c]) (ws.map Tx)),e2]
theorem aoY(c:Nat):∀ws:List (List Nat),(ws.map (·.length)).sum+ws.length=(aaY c ws).length+(if ws=[] then 0 else 1)
 |[]=>rfl
 |[p]=>by simp[aaY]
 |p::q::r=>by
  have ih:=aoY c (q::r);rw[if_neg (by simp)] at ih ⊢;simp only[bG,List.sum_cons,bZ,aaY,aY] at ih ⊢;omega
section
variable{X:Cx}
def aHL(K:FG):V->List V->Hp->VK->Prop:=λx vs H Q=>∃(c:Nat) (p:Addr) (ws:List (List Nat)),x=.str (Tx [c])/\vs=[.ref p]/\SqL K H p (ws.map λq=>V.str (Tx q))/\(aaY c ws).length<=1000000/\Q (.str (Tx (aaY c ws))) H
theorem aFN:MtR X "str.join" (aHL X.K):=by
 intro pins s σ H x xs v us Q I rx rv h;obtain⟨c,p,ws,rfl,rfl,hq,hz,q⟩:=h;obtain⟨u,rfl,r1⟩:=acC rv;cases r1;obtain⟨t,rfl⟩:=rx;obtain⟨its,rv2,pl,hz2⟩:=I.list hq;have hj:=aoY c ws;have hw:((ws.map Tx).map (·.length)).sum+(ws.map Tx).length<=1048576:=by
  rw[bY,aR];have e:ws.map ((λx:Str=>x.length) ∘ Tx)=ws.map (·.length):=List.map_congr_left λa _=>abP a;rw[e];split at hj<;>omega
 refine join_listW pl.isList (ys:=ws.map Tx) (by simpa using asM rv2) (by rw[abP];show 1<=16;decide) hw λt' k=>?_;refine⟨.str (Tx (aaY c ws)),H,I.kept (t':=k) λ_ _ e=>e,⟨t',by rw[aEI]⟩,q⟩
theorem axT{o e:Expr}{to te:TE}{apos cpos:Pos}(ho:E X o to)(he:E X e te)(hbase:attributeBase o "join" X.env (eval o X.env)=eval o X.env:=by rfl)
  (hfew:((backTo cpos (starEach [e] X.env)).all (λx=> !x.1)&&(backToKw cpos (keywordEach [] X.env)).all (λx=>x.1.isSome)&&decide (([e]:List Expr).length+([]:List Keyword).length+(if ([]:List Keyword).isEmpty then 0 else 1)<30))=true:=by rfl)
  (hline:(apos.endLine==cpos.line)=true:=by rfl) (hs:starEach [e] X.env=(false,eval e X.env)::starEach [] X.env:=by rfl) (hplain:(backTo cpos (starEach [] X.env)).any (·.1)=false:=by rfl):
  E X (.Call (.Attribute o "join" apos) [e] [] cpos) (tBM X.K "str" (aHL X.K) to (acV te aiM)):=
 ⟨asR PySem.F.plainAttrs_str PySem.F.slot_str_join PySem.F.type_str_join aFN ho.h (adN he.h afL hs) hbase hfew hline hs hplain⟩
theorem aQN:Op2 X (binaryOp .Add) (λx y H Q=>∃(a b:Addr) (xs ys:List V),x=.ref a/\y=.ref b/\SqL X.K H a xs/\SqL X.K H b ys/\xs.length+ys.length<=sizeLine/\∀p,H p=none->Q (.ref p) (upd H p (.lst (xs++ys)))):=by
 refine⟨λpins s σ H x y v u Q I rx ry h=>?_⟩;obtain⟨a,b,xs,ys,rfl,rfl,ha,hb,hz,q⟩:=h;cases rx;cases ry;obtain⟨i1,r1,p1,z1⟩:=I.list ha;obtain⟨i2,r2,p2,z2⟩:=I.list hb;obtain⟨⟨cls,dd,data,sl⟩,ho,hc,n,hd⟩:=p1.isList;obtain⟨⟨cls2,dd2,data2,sl2⟩,ho2,hc2,n2,hd2⟩:=p2.isList;simp only at hc hd hc2 hd2;subst hc hd hc2 hd2;have l1:=r1.length;have l2:=r2.length;refine concat_meets ⟨_,ho,rfl⟩ ⟨_,ho2,rfl⟩ noFill_list_add seq_list_add PySem.F.slot_list_add PySem.F.entry_list_add (PySem.F.args_list_add_2 _ _) (list_addW a b _ _ n n2 dd dd2 sl sl2 (by simp only[bI];omega)) ⟨ho,ho2,?_⟩
 refine⟨.ref s.heap.objs.size,upd H s.heap.objs.size (.lst (xs++ys)),I.laid (t':=s.toks) (λb u e=>aU _ e) (aQ _) ?_,rfl,q _ (I.hok.fresh (aQ _))⟩;exact⟨by rw[aY];exact hz,i1++i2,0,r1.append r2,by simpa using a9 _ rfl⟩
end
def awQ(J:It)(k:Nat)(js:List Nat)(g:TG)(σ:St)(tt:TT)(te:TE)(Q:VK)(H1:Hp):Prop:=∀D,H1 D=none->∃W:Nat->Nat->Hp->Prop,(∃m,W 0 m (upd H1 D (.lst [])))/\∀i m H2,W i m H2->
 (J.stop i H2/\Q (.ref D) H2)∨(J.go i H2/\∀v H3,J.yld i H2 v H3->∀τ:St,τ.length=k->g v (τ++ab1 js σ) H3 λσ2 H3'=>(∃τ':St,τ'.length=k/\σ2=τ'++ab1 js σ)/\tt σ2 H3' λb H4=>if b=true then
  te σ2 H4 λy H5=>∃ys,H5 D=some (.lst ys)/\ys.length<sizeLine/\∃m',m'<m/\W (i+1) m' (upd H5 D (.lst (ys++[y])))
  else ∃m',m'<m/\W (i+1) m' H4)
def aDH(wi:TI)(k:Nat)(js:List Nat)(g:TG)(tt:TT)(te:TE):TE:=λσ H Q=>wi σ H λJ H1=>awQ J k js g σ tt te Q H1
section
variable{X:Cx}{elt iter tg:Expr}{xs:List Str}{y:Str}{py pos spos:Pos}{ifs:List Expr}{scope:Scope}{cl:List (Str×Addr)}{N':List Str}{js:List Nat}{tt:TT}{te:TE}{g:TG}{wi:TI}
theorem auH{pins:List (Addr×Obj)}{σ:St}{H:Hp}{s s4:Shared}{fp:List Addr}{C:Addr}{m4:Str->Option Value}(hcl:Clos X scope cl)(hN:js.map (λj=>X.N[j]?)=N'.map some)
  (hk:N'.all (λy=>(X.env.kindOf y==some .cell)||(X.env.kindOf y==some .free))=true) (hf:N'.all (λy=>scope.names.lookup y==some .free)=true)
  (I:Inv X pins σ H s) (hfp:∀b∈fp,ahT X pins H b/\b<s.heap.objs.size) (hC:C=s.heap.objs.size) (ho:s4.os=s.os) (hg:s4.gens=s.gens) (hkeep:∀b o,s.heap.get? b=some o->s4.heap.get? b=some o) (hn:s4.heap.Ns C m4):
  Inv (aa6 X (xs++N') scope cl C fp pins s H) [] (List.replicate xs.length none++ab1 js σ) H s4:=by
 have hne:∀b o,s.heap.get? b=some o->b≠C:=λb o e=>by rw[hC];exact aW (aV e)
 refine⟨⟨I.ok.mod,hcl.kind,I.ok.glob,I.ok.blt,Nat.le_of_eq hC.symm,λy z c h1 h2=>I.ok.inj y z c (hcl.sub y c h1) (hcl.sub z c h2),λy hy=>hcl.has y (aAE (λz=>hcl.nocell _ (PySem.mem_of_lookup z) rfl) (by rw[←ad5];exact hy)),λy c h _=>(nomatch h),I.ok.hd,I.ok.frames,.inl rfl,λb hb=>⟨?_,λy c e=>(hfp b hb).1.2.2.2.2.1 y c (hcl.sub y c e)⟩,
  I.bs,bL I.ok.bsz I.sz,λb o e hb=>?_,λb hb hz=>?_,I.stack,I.stkFree⟩,ho,by rw[hg];exact I.bare,Un.kept hkeep,⟨m4,hn,λi y v h1 h2 h3=>?_⟩,λy c e=>?_,?_,λy c e=>I.freeC y c (hcl.sub y c e),λp hp=>?_,I.hok.kept hkeep,?_⟩
 ·rw[hC];exact aW (hfp b hb).2
 ·rcases (hfp b hb).1.2.2.2.1 with z | z
  ·exact I.ok.noex b o e z
  ·exact absurd (bA (aV e) (bL I.ok.bsz z)) (cR _)
 ·rcases aX.mp (I.stkSub b hz) with z | z
  ·exact (hfp b hb).1.2.1 z
  ·exact (hfp b hb).1.2.2.1 z
 ·by_cases hi:i<xs.length
  ·rw[List.getElem?_append_left (by rw[dQ];exact hi),List.getElem?_replicate,if_pos hi] at h2;exact nomatch h2
  ·obtain⟨j0,rfl⟩:∃j0,i=xs.length+j0:=⟨i-xs.length,⋯⟩;have h1:N'[j0]? =some y:=by
    have h1:(xs++N')[xs.length+j0]? =some y:=h1;rw[List.getElem?_append_right (Nat.le_add_right _ _),Nat.add_sub_cancel_left] at h1;exact h1
   have h2:(ab1 js σ)[j0]? =some (some v):=by rw[List.getElem?_append_right (by rw[dQ];exact Nat.le_add_right _ _),dQ,Nat.add_sub_cancel_left] at h2;exact h2
   generalize j0=i at h1 h2;have hy:y∈N':=bU h1;have q:(js.map (λj=>X.N[j]?))[i]? =some (some y):=by rw[hN,bC,h1];rfl
   rw[bC] at q;cases ej:js[i]? with
   |none=>rw[ej] at q;cases q
   |some j=>
    rw[ej] at q;have q:X.N[j]? =some y:=aZ q;unfold ab1 at h2;rw[bC,ej] at h2;have h2:(σ[j]?).getD none=some v:=aZ h2;have h2:σ[j]? =some (some v):=by
     cases e:σ[j]? with
     |none=>rw[e] at h2;cases h2
     |some o=>rw[e] at h2;exact congrArg some h2
    have kk:=bV.mp hk y hy;have kk:X.env.kindOf y=some .cell∨X.env.kindOf y=some .free:=by simpa using kk
    have ff:=bV.mp hf y hy;have ff:scope.names.lookup y=some .free:=by simpa using ff
    obtain⟨m,_,hl⟩:=I.loc;obtain⟨u,r,l⟩:=hl j y v q h2 (by rcases kk with z | z;exact .inr (.inl z);exact .inr (.inr z))
    refine⟨u,r,.inr ⟨apQ ff,?_⟩⟩;obtain⟨c,hc⟩:=hcl.has y ff;rcases l with ⟨z,_⟩ | ⟨_,c',e',cell⟩
    ·rcases kk with k | k<;>(rw[k] at z;cases z)
    ·rw[hcl.sub y c hc] at e';cases e';exact⟨c,hc,cell.keeps hkeep⟩
 ·obtain⟨v,q⟩:=I.cell y c (hcl.sub y c e);exact⟨v,q.keeps hkeep⟩
 ·show H C=none;rw[hC];exact I.hok.fresh (aQ _)
 ·have hp:p∈X.pn++pins:=by
   have hp:p∈(X.pn++pins)++[]:=hp
   rwa [cU] at hp
  obtain⟨e,n,ne,nf,d⟩:=I.pin p hp;refine⟨hkeep _ _ e,n,hne _ _ e,λz=>?_,d⟩;rcases aX.mp (I.stkSub p.1 z) with z | z
  ·exact ne z
  ·exact nf z
 ·show (List.replicate xs.length none++ab1 js σ).length=(xs++N').length;rw[aY,aY,dQ];have q:=congrArg List.length hN;rw[aR,aR] at q;unfold ab1;rw[aR,q]
theorem ayU{pins:List (Addr×Obj)}{σ σ':St}{H H':Hp}{s s':Shared}{fp:List Addr}{C:Addr}(I:Inv X pins σ H s)(hfp:∀b∈fp,ahT X pins H b)(J:Inv (aa6 X (xs++N') scope cl C fp pins s H) [] σ' H' s'):Inv X pins σ H' s':=
 I.call' (ch:=fp) J.os J.base J.hok J.bare λb hb=>⟨(hfp b hb).2.2.2.1,(hfp b hb).2.1,(hfp b hb).2.2.2.2.1,(hfp b hb).2.2.2.2.2⟩
theorem afG{pins:List (Addr×Obj)}{σ:St}{H:Hp}{s:Shared}{Q:VK}{RR:Value->Addr->Result->Shared->Prop}{J:It}{fp:List Addr}{it:Addr}{tn:Nat->Heap->Prop}
  (hcl:Clos X scope cl) (hnd:(xs++N').Nodup) (hN:js.map (λj=>X.N[j]?)=N'.map some)
  (hk:N'.all (λy=>(X.env.kindOf y==some .cell)||(X.env.kindOf y==some .free))=true) (hf:N'.all (λy=>scope.names.lookup y==some .free)=true) (hc:X.calm=true)
  (hg:∀(C:Addr) (ex:List Addr) (pins:List (Addr×Obj)) (s:Shared) (H:Hp),PG (aa6 X (xs++N') scope cl C ex pins s H) tg g)
  (ht:∀(C:Addr) (ex:List Addr) (pins:List (Addr×Obj)) (s:Shared) (H:Hp),PF (aa6 X (xs++N') scope cl C ex pins s H) ifs tt)
  (he:∀(C:Addr) (ex:List Addr) (pins:List (Addr×Obj)) (s:Shared) (H:Hp),PE (aa6 X (xs++N') scope cl C ex pins s H) elt te)
  (I:Inv X pins σ H s) (T:Turn X.prog X.w X.K (tg) J fp it tn) (st:tn 0 s.heap) (hfp:∀b∈fp,ahT X pins H b)
  (q:∀D,H D=none->∃W:Nat->Nat->Hp->Prop,(∃m,W 0 m (upd H D (.lst [])))/\∀i m H2,W i m H2->
   (J.stop i H2/\Q (.ref D) H2)∨(J.go i H2/\∀v H3,J.yld i H2 v H3->∀τ:St,τ.length=xs.length->g v (τ++ab1 js σ) H3 λσ2 H3'=>(∃τ':St,τ'.length=xs.length/\σ2=τ'++ab1 js σ)/\tt σ2 H3' λb H4=>if b=true then
    te σ2 H4 λy H5=>∃ys,H5 D=some (.lst ys)/\ys.length<sizeLine/\∃m',m'<m/\W (i+1) m' (upd H5 D (.lst (ys++[y])))
    else ∃m',m'<m/\W (i+1) m' H4))
  (hRR:∀(D C:Addr) (s':Shared) (H':Hp) (m:Str->Option Value),Inv X pins σ H' s'->H' C=none->C≠X.env.locals->X.s₀.heap.objs.size<=C->(∀y c,X.env.cells.lookup y=some c->c≠C)->(∀p∈X.pn++pins,p.1≠C)->s'.heap.Ns C m->Q (.ref D) H'->RR (.ref D) C (.ok .next) s'):
  wpAny (model X.prog X.w) X.A (newList []) (λacc s₃=>wpAny (model X.prog X.w) X.A (newFunctionEnv scope X.env.globals cl [] X.env.qual none .none (some X.env)) (λcenv s₄=>
   codeAny (model X.prog X.w) X.A (.compStart (.ListComp elt [⟨tg,iter,ifs,0⟩] scope pos) 0 (.ref it) acc {cenv with scope:=relabel scope X.env}) (RR acc cenv.locals) s₄) X.xe s₃) X.xe s:=by
 refine eO ?_;have hD:H s.heap.objs.size=none:=I.hok.fresh (aQ _);have I3:Inv X pins σ (upd H s.heap.objs.size (.lst [])) {s with heap:=s.heap.push {cls:=.type "list",dict:=none,data:=.seq ([]:List Value).toArray} }:=I.lnew (its:=[]) (t':=s.toks) .nil (bM _);have hfp3:∀b∈fp,ahT X pins (upd H s.heap.objs.size (.lst [])) b/\b<(s.heap.push {cls:=.type "list",dict:=none,data:=.seq ([]:List Value).toArray}).objs.size:=λb hb=>by
  obtain⟨o,ho,_⟩:=T.obj 0 _ st b hb;have hlt:=aV ho;obtain⟨f0,f1⟩:=hfp b hb;exact⟨⟨by rw[aaD (aW hlt)];exact f0,f1⟩,by rw[c9];exact dA hlt⟩
 have st3:tn 0 (s.heap.push {cls:=.type "list",dict:=none,data:=.seq ([]:List Value).toArray}):=T.keep _ _ _ st λb _ o e=>aU _ e;obtain⟨W,⟨m0,w0⟩,turn⟩:=q s.heap.objs.size hD;generalize hs3:({s with heap:=s.heap.push {cls:=.type "list",dict:=none,data:=.seq ([]:List Value).toArray} }:Shared)=s3 at I3 ⊢;have hh3:s.heap.push {cls:=.type "list",dict:=none,data:=.seq ([]:List Value).toArray}=s3.heap:=by rw[←hs3]
 rw[hh3] at hfp3 st3;generalize s.heap.objs.size=D at I3 hfp3 w0 turn hD ⊢;generalize upd H D (.lst [])=H3 at I3 hfp3 w0;refine wpAny_newFunctionEnv hcl.nocell (by intro y hy;simp at hy) (λh₁ hns₁ hsb₁=>?_) hcl.kind;have hkeep:∀b o,s3.heap.get? b=some o->h₁.get? b=some o:=λb o e=>hsb₁.extBut b o (aW (aV e)) (aU _ e);have J4:Inv (aa6 X (xs++N') scope cl s3.heap.objs.size fp pins s3 H3) [] (List.replicate xs.length none++ab1 js σ) H3 {s3 with heap:=h₁,toks:=s3.toks+([]:List (Str×Value)).length}:=
  auH hcl hN hk hf I3 hfp3 rfl rfl rfl hkeep hns₁
 have st4:tn 0 h₁:=T.keep _ _ _ st3 λb _ o e=>hkeep b o e;have cell':∀{s':Shared} {σ':St} {H':Hp},Inv (aa6 X (xs++N') scope cl s3.heap.objs.size fp pins s3 H3) [] σ' H' s'->Q (.ref D) H'->RR (.ref D) s3.heap.objs.size (.ok .next) s':=λ{s' σ' H'} J hq=>by
  obtain⟨m,hn,_⟩:=J.loc;refine hRR D _ s' H' m (ayU I3 (λb hb=>(hfp3 b hb).1) J) J.free (Nat.ne_of_gt I3.lt) I3.sz (λy c e z=>?_) (λp hp z=>?_) hn hq
  ·obtain⟨v,k⟩:=I3.cell y c e;exact absurd k.lt (by rw[z];exact cR _)
  ·exact absurd (aV (I3.pin p hp).1) (by rw[z];exact cR _)
 have fpX:∀{H':Hp},(∀b∈fp,H' b=none)->∀b∈fp,ahT (aa6 X (xs++N') scope cl s3.heap.objs.size fp pins s3 H3) [] H' b:=λ{H'} hn b hb=>by
  obtain⟨⟨f0,f1,f2,f3,f4,f5⟩,flt⟩:=hfp3 b hb;refine⟨hn b hb,aW flt,λz=>?_,.inl hb,λy c e=>f4 y c (hcl.sub y c e),λp hp=>?_⟩
  ·rcases aX.mp (I3.stkSub b z) with z | z
   ·exact f1 z
   ·exact f2 z
  ·have hp:p∈(X.pn++pins)++[]:=hp;rw[cU] at hp;exact f5 p hp
 have loop:∀s₄:Shared,s₄={s3 with heap:=h₁,toks:=s3.toks+([]:List (Str×Value)).length}->
   codeAny (model X.prog X.w) X.A (.compLoop (.ListComp elt [⟨tg,iter,ifs,0⟩] scope pos) 0 (.ref it) (.ref D) (compEnvC scope cl s3.heap.objs.size X.env)) (RR (.ref D) s3.heap.objs.size) s₄:=by
  rintro s₄ rfl;refine awH rfl (λn s'=>∃i τ H',τ.length=xs.length/\Inv (aa6 X (xs++N') scope cl s3.heap.objs.size fp pins s3 H3) [] (τ++ab1 js σ) H' s'/\tn i s'.heap/\(∀b∈fp,H' b=none)/\W i n H') ?_ m0 ⟨0,List.replicate xs.length none,H3,dQ,J4,st4,λb hb=>(hfp3 b hb).1.1,w0⟩;rintro n s5 ⟨i,τ,H5,hτ,J5,st5,fr5,w5⟩;rcases turn i n H5 w5 with ⟨stop,qn⟩ | ⟨go,step⟩
  ·refine eQ (T.done (aa6 X (xs++N') scope cl s3.heap.objs.size fp pins s3 H3) rfl rfl rfl hc i [] s5 _ H5 (λ_ _=>False) J5 (fpX fr5) st5 stop) (λr s6 ⟨hr,J6⟩=>?_) λ_ _ z=>z.elim;subst hr;exact cell' J6 qn
  ·refine eQ (T.item (aa6 X (xs++N') scope cl s3.heap.objs.size fp pins s3 H3) rfl rfl rfl hc i [] s5 _ H5 (λ_ _=>False) J5 (fpX fr5) st5 go) (λr s6 ⟨u,hr,h6⟩=>?_) λ_ _ z=>z.elim;subst hr;refine eQ h6 (λ_ s6' h6'=>?_) λ_ _ z=>z.elim;obtain⟨v,H6,J6,r6,y6,st6,fr6⟩:=h6';clear h6;have J6':=J6.pinned (fpX fr6) (T.obj _ _ st6);show wpAny _ _ (assign tg _ u) _ _ _;refine eQ (hg _ _ _ _ _ _ s6' _ H6 v u _ J6' r6 (step v H6 y6 τ hτ)) (λ_ s7 h7=>?_) λ_ _ z=>z.elim
   obtain⟨_,H7,J7,⟨τ',hτ',rfl⟩,q7⟩:=h7;have again:∀{σ8:St} {H8:Hp} {s8:Shared},Inv (aa6 X (xs++N') scope cl s3.heap.objs.size fp pins s3 H3) ([]++anI fp s6'.heap) σ8 H8 s8->tn (i+1) s8.heap/\∀b∈fp,H8 b=none:=λ{σ8 H8 s8} J8=>by
    refine⟨T.keep _ _ _ st6 λb hb o e=>(J8.pin (b,o) (cD _ (cD _ (aeC hb e)))).1,λb hb=>?_⟩;obtain⟨o,e,d⟩:=T.obj _ _ st6 b hb;exact (J8.pin (b,o) (cD _ (cD _ (aeC hb e)))).2.1
   refine eQ (ht _ _ _ _ _ _ s7 _ H7 _ J7 q7) (λok s8 ⟨H8,J8,q8⟩=>?_) λ_ _ z=>z.elim;cases ok with
   |false=>
    obtain⟨m',hm,w8⟩:=(show ∃m',m'<n/\W (i+1) m' H8 from q8);obtain⟨a1,a2⟩:=again J8;exact⟨m',hm,i+1,τ',H8,hτ',J8.unpinned,a1,a2,w8⟩
   |true=>
    refine eQ (he _ _ _ _ _ _ s8 _ H8 _ J8 q8) (λy s9 ⟨z,H9,J9,r9,ys,hys,hlen,m',hm,w9⟩=>?_) λ_ _ z=>z.elim;refine eQ (aoL (X:=aa6 X (xs++N') scope cl s3.heap.objs.size fp pins s3 H3) _ s9 _ H9 (.ref D) [z] (.ref D) [y] (λ_ H10=>H10=upd H9 D (.lst (ys++[z]))) J9 rfl (.cons r9 .nil) ⟨D,ys,z,rfl,rfl,hys,hlen,rfl⟩) (λ_ s10 ⟨_,H10,J10,_,e10⟩=>?_) λ_ _ z=>z.elim;subst e10;obtain⟨a1,a2⟩:=again J10;exact⟨m',hm,i+1,τ',_,hτ',J10.unpinned,a1,a2,w9⟩
 exact codeAny_compStart_list (loop _ rfl) (T.self _ 0 _ _ _ st4 (loop _ rfl))
theorem aAY(hcl:Clos X scope cl)(hnd:(xs++N').Nodup)(hN:js.map (λj=>X.N[j]?)=N'.map some)
  (hk:N'.all (λy=>(X.env.kindOf y==some .cell)||(X.env.kindOf y==some .free))=true) (hf:N'.all (λy=>scope.names.lookup y==some .free)=true) (hc:X.calm=true)
  (hi:PI X (tg) iter wi)
  (hg:∀(C:Addr) (ex:List Addr) (pins:List (Addr×Obj)) (s:Shared) (H:Hp),PG (aa6 X (xs++N') scope cl C ex pins s H) tg g)
  (ht:∀(C:Addr) (ex:List Addr) (pins:List (Addr×Obj)) (s:Shared) (H:Hp),PF (aa6 X (xs++N') scope cl C ex pins s H) ifs tt)
  (he:∀(C:Addr) (ex:List Addr) (pins:List (Addr×Obj)) (s:Shared) (H:Hp),PE (aa6 X (xs++N') scope cl C ex pins s H) elt te)
  (hs:∀x,foldedSetIterable iter X.env x=pure x:=by intro _;rfl):
  PE X (.ListComp elt [⟨tg,iter,ifs,0⟩] scope pos) (aDH wi xs.length js g tt te):=by
 intro pins s σ H Q I h;rw[eval_ListComp];refine wpAny_comprehension_free (use:=none) rfl hs hcl.is hcl.kind hcl.names (thn (hi pins s σ H _ I h) λxv s₁ h₁=>thn h₁ λitv s₂ h₂=>?_);obtain⟨it,fp,tn,J,H2,rfl,I2,T,st,hfp,q⟩:=h₂;refine afG (RR:=λacc C=>compPost (model X.prog X.w) X.A X.xe none (EP X pins σ Q) acc C) hcl hnd hN hk hf hc hg ht he I2 T st hfp q ?_;intro D C s' H' m I' hC0 hCL hCs hCc hCp hn hq
 refine⟨m,hn,λh' sb=>⟨.ref D,H',?_,rfl,hq⟩⟩;exact I'.turned (t':=s'.toks) (λb o hb e=>(sb.2 b hb).trans e) hC0 hCL (.inr hCs) hCc hCp
theorem aIN(xs N':List Str)(js:List Nat)(hi:Il X (tg) iter wi)
  (hg:∀(cl:List (Str×Addr)) (C:Addr) (ex:List Addr) (pins:List (Addr×Obj)) (s:Shared) (H:Hp),Gt (aa6 X (xs++N') scope cl C ex pins s H) tg g)
  (ht:∀(cl:List (Str×Addr)) (C:Addr) (ex:List Addr) (pins:List (Addr×Obj)) (s:Shared) (H:Hp),Fs (aa6 X (xs++N') scope cl C ex pins s H) ifs tt)
  (he:∀(cl:List (Str×Addr)) (C:Addr) (ex:List Addr) (pins:List (Addr×Obj)) (s:Shared) (H:Hp),E (aa6 X (xs++N') scope cl C ex pins s H) elt te)
  (hcl:∃cl,Clos X scope cl:=by exact arR rfl rfl rfl rfl) (hnd:(xs++N').Nodup:=by decide +kernel) (hN:js.map (λj=>X.N[j]?)=N'.map some:=by rfl)
  (hk:N'.all (λy=>(X.env.kindOf y==some .cell)||(X.env.kindOf y==some .free))=true:=by rfl) (hf:N'.all (λy=>scope.names.lookup y==some .free)=true:=by rfl) (hc:X.calm=true:=by rfl)
  (hs:∀x,foldedSetIterable iter X.env x=pure x:=by intro _;rfl):E X (.ListComp elt [⟨tg,iter,ifs,0⟩] scope pos) (aDH wi xs.length js g tt te):=by
 obtain⟨cl,hcl⟩:=hcl;exact⟨aAY hcl hnd hN hk hf hc hi.h (λC ex pins s H=>(hg cl C ex pins s H).h) (λC ex pins s H=>(ht cl C ex pins s H).h) (λC ex pins s H=>(he cl C ex pins s H).h) hs⟩
variable{σ:St}{Q:VK}{H1:Hp}
end
theorem alA{X:Cx}{pos:Pos}{K:FG}{es:List Expr}{k n:Nat}{t:TGs}(h:Gts X es t)(hK:X.K=K:=by rfl)(hc:X.calm=true:=by rfl)(hn:(assignEach es X.env).length=n:=by rfl)(hst:(assignEach es X.env).findIdx? (·.1)=none:=by rfl):Gt X (.Tuple es k pos) (aF5 K n t):=by
 subst hK;exact gTu h hc hn hst
section
variable{X:Cx}
variable{elt iter tg:Expr}{xs:List Str}{y:Str}{py pos spos:Pos}{ifs:List Expr}{scope:Scope}{cl:List (Str×Addr)}{N':List Str}{js:List Nat}{tt:TT}{te:TE}{g:TG}{wi:TI}
end
end L2
namespace L2
open PySem PySem.Spec PyProof.Rows PySem.SeqAt
section
variable{X:Cx}
theorem iLc{K:FG}{tg e:Expr}{te:TE}(hl:E X e te)(hK:X.K=K:=by rfl):Il X tg e (aCE K te):=by
 subst hK;exact iL hl
variable{M:Model}{A:Around}{E:Value->Shared->Prop}{s:Shared}{f:Obj->Prop}{B:Heap}{env:Env}{outer l:List Env}{L e:Addr}{fl:Value}{Q:Unit->Shared->Prop}
end
theorem ObjOk.at{P:Program}{w:World}{H:Hp}{h:Heap}{a:Addr}{o:HO}(x:ObjOk P w H h a o):∃ob,h.get? a=some ob:=by
 induction o with
 |lst xs=>obtain⟨_,_,_,_,e⟩:=x;exact⟨_,e⟩
 |tup xs=>obtain⟨_,_,_,ob,e,_⟩:=x;exact⟨_,e⟩
 |dK kvs=>obtain⟨_,_,_,_,ob,_,_,e,_⟩:=x;exact⟨_,e⟩
 |dT kvs=>obtain⟨_,_,_,_,ob,_,_,e,_⟩:=x;exact⟨_,e⟩
 |set S n=>obtain⟨ob,_,_,_,e,_⟩:=x;exact⟨_,e⟩
 |ins C dx fs=>obtain⟨_,_,_,e,_⟩:=x;exact⟨_,e⟩
 |own y=>exact x
 |xd fs=>obtain⟨_,⟨ob,_,_,e,_⟩,_⟩:=x;exact⟨_,e⟩
 |rng lo hi=>obtain⟨_,_,_,e⟩:=x;exact⟨_,e⟩
 |frz ob u ih=>exact⟨_,x.1⟩
 |tbl ps=>exact⟨_,x⟩
 |met f y=>exact⟨_,x⟩
 |ext φ=>exact x.2.1
def Ex(C:Addr)(d:Option Addr)(b:Bool)(o:Obj):Prop:=o.cls=.ref C/\o.dict=d/\∃vs,o.data=.fields vs/\(b=true->vs[2]? =some .none)
noncomputable def wc(C:Addr):Value:=.int C 0
noncomputable def cv(C:Addr):Bool->Value
 |true=>.ref C
 |false=>wc C
def Fly(g h:Heap)(H:Hp)(a C:Addr)(d:Option Addr)(b:Bool):Prop:=
 H a=none/\g.get? a=none/\∃(o:Obj) (vs:Array Value) (T:Addr) (oT:Obj) (ts:Array Value),(h.get? a=some o/\o.data=.fields vs/\vs[1]? =some (.ref T)/\Ex C d b o)/\
  (h.get? T=some oT/\oT.data=.fields ts/\ts[3]? =some .none)/\(H T=none/\g.get? T=none)/\T≠a
def CX1(P:Program)(w:World):CXT:=λouter H s E e s'=>
 ∃a C d b H',e=.ref a/\s'.os=s.os/\AllBare s'.gens/\Un (frs outer) [] H H' s.heap s'.heap/\HOk P w H' s'.heap/\Fly s.heap s'.heap H' a C d b/\E (cv C b) d H'
section
variable{P:Program}{w:World}{K:FG}{mg:Str->Option Value}{base:Heap}{N:List Str}{qual:Str}{scope:Scope}{f:Addr}{cd:Value}{A:Around}{outer:List Env}{s0:Shared}{H0:Hp}{E:XK}
end
noncomputable abbrev aOV:List Value:=[.type "ValueError",.type "Exception",.type "BaseException",.type "object"]
structure Xc(K:FG)(mg:Str->Option Value)(x:Str)(C:Addr):Prop where
 m:mg x=some (.ref C)
 n:PySem.W.nsIn K mainGlobals x=some (some (.ref C))
 q:PySem.W.excIn K C aOV "ValueError.__new__"=true
theorem Mod.top{K:FG}{mg:Str->Option Value}{base:Heap}(m:Mod K mg base)(p:Program):∃loose mb,PySem.W.TopRead p loose mg mb base:=by
 obtain⟨mb,b1,b2⟩:=m.blt;obtain⟨o,es,ep,ho,hd,hk,hf⟩:=id m.glob;refine⟨es.toList.filterMap λe=>match e.key with | .str y _=>some y | _=>none,mb,m.glob,b1,m.nolimit,b2,λx _ hx _ _ _=>?_⟩
 rw[←hf];have none_:es.find? (λe=>e.key.isStr x)=none:=by
  rw[Array.find?_eq_none];intro e he hs;obtain⟨y,t,ek⟩:=hk e he;refine hx (List.mem_filterMap.mpr ⟨e,by simpa using he,?_⟩);rw[ek] at hs ⊢;have:y=x:=by simpa [Value.isStr] using hs
  rw[this]
 show (es.find? λe=>e.key.isStr x).map (·.val)=none;rw[none_];rfl
theorem Xc.own{K:FG}{mg:Str->Option Value}{base:Heap}{x:Str}{C:Addr}(c:Xc K mg x C)(m:Mod K mg base)(p:Program):OwnCls x C aOV "ValueError.__new__" mg base:=by
 obtain⟨loose,mb,T⟩:=m.top p;exact PySem.W.own_of_in m.kin T c.n c.q
section
variable{X:Cx}{E:XK}{x:Str}{C:Addr}{e:Expr}{es:List Expr}{t:TA}{np cpos pos:Pos}
variable{P:Program}{w:World}{K:FG}{mg:Str->Option Value}{base:Heap}{N:List Str}{qual:Str}{scope:Scope}{f:Addr}{cd:Value}{A:Around}{outer:List Env}{s0:Shared}{H0:Hp}
variable{st:Stmt}{ps:List Str}{k:Nat}{sp:Sp}
end
def XP(X:Cx)(pins:List (Addr×Obj))(σ:St)(E:XK)(e:Value)(s':Shared):Prop:=∃s1 H1,Inv X pins σ H1 s1/\CX1 X.prog X.w X.stack H1 s1 E e s'
noncomputable abbrev TX:=St->Hp->VK->XK->Prop
noncomputable abbrev TB:=Ends->St->Hp->XK->Prop
section
variable{X:Cx}{k k':Nat}{ps:List Str}{sp:Sp}{x:Str}{e:Expr}{es:List Expr}{tA:TA}{p pos:Pos}{t:TX}
variable{pins:List (Addr×Obj)}{σ:St}{H:Hp}{s:Shared}
end
noncomputable def xo(a C:Addr)(d:Option Addr)(b:Bool):HO:=.ext λh=>∃o,h.get? a=some o/\Ex C d b o
section
variable{X:Cx}{body suite:List Stmt}{b0:Stmt}{tb:TB}{th:Addr->TS}{cx n:Str}{np hpos pos:Pos}{CF:Addr}
variable{E:XK}{x:Str}{C:Addr}{e:Expr}{es:List Expr}{tA:TA}{cpos p:Pos}{k k':Nat}{ps:List Str}{sp:Sp}
end
def AtC(a C:Addr)(h:Heap):Prop:=∃o vs,h.get? a=some o/\o.cls=.ref C/\o.data=.fields vs
theorem AtC.ty{M:Model}{a C:Addr}{h:Heap}(x:AtC a C h):PySem.W.Looks M h (typeOf (.ref a)) (.ref C):=by
 obtain⟨o,vs,h1,h2,_⟩:=x;exact h2▸(PySem.W.Looks.ld h1).andThen .now
section
open PySem.W
variable{prog:Program}{w:World}{A:Around}{E:Value->Shared->Prop}{s:Shared}{K:FG}{a C:Addr}
open Builtin Builtin.ObjectAttr Builtin.Getset_descriptor in
open Builtin Builtin.ObjectAttr in
variable{X:Cx}{body suite:List Stmt}{b0:Stmt}{tb:TB}{th:Addr->TS}{cx:Str}{np hpos pos:Pos}{CF:Addr}
variable{e:Addr}{d:Option Addr}
variable{env:Env}
end
section
variable{P:Program}{w:World}{K:FG}{mg:Str->Option Value}{base:Heap}{N:List Str}{qual:Str}{scope:Scope}{f:Addr}{cd:Value}{A:Around}{outer:List Env}{s0:Shared}{H0:Hp}{E:XK}
variable{X:Cx}{x:Str}{C a:Addr}{e:Expr}{es:List Expr}{t:TA}{np cpos pos p2:Pos}{j:Nat}
end
def tDi:TE:=λ_ H Q=>∀p,H p=none->Q (.ref p) (upd H p (.dK []))
section
variable{X:Cx}{pos:Pos}{o i:Expr}{to ti:TE}
theorem Inv.bigM{pins:List (Addr×Obj)}{σ:St}{H:Hp}{s:Shared}(I:Inv X pins σ H s):sysModules<s.heap.objs.size:=by
 have h:mainGlobals<s.heap.objs.size:=(I.mod.glob.keeps I.bk).lt;exact Nat.lt_trans (by decide) h
theorem eDi:E X (.Dict [] [] pos) tDi:=⟨λpins s σ H Q I h=>wpAny_Dict_empty ⟨.ref s.heap.objs.size,_,I.laid (a:=s.heap.objs.size) (o:=.dK []) (t':=s.toks) (λ_ _ q=>aU _ q) (aQ _)
 ⟨bM _,beq_eq_false_iff_ne.mpr (Ne.symm (aW I.bigM)),[],.nil,Heap.DictOf.new s.heap⟩,rfl,h _ (I.hok.fresh (aQ _))⟩⟩
theorem gSb(ho:E X o to)(hi:E X i ti)(ha:∀v,assign (.Subscript o i pos) X.env v=(do
   let ov ←holding [v] (eval o X.env)
   let iv ←holding [v,ov] (eval i X.env)
   standAt pos
   holding [v,ov,iv] (setItem ov iv v)
   release [v,ov,iv] []):=by intro _;rfl):Gt X (.Subscript o i pos) (aSX to ti aG8):=⟨aJD ho.h hi.h aAW ha⟩
end
theorem KindV.same{K:FG}{H H':Hp}{v:V}{k:Kd}(h:KindV K H v k)(s:Same H H'):KindV K H' v k:=by
 cases v with
 |ref a=>
  rcases h with ⟨e,xs,h⟩ | ⟨e,xs,h⟩ | ⟨e,xs,h⟩
  ·exact .inl ⟨e,xs,s.seq h⟩
  ·refine .inr (.inl ⟨e,xs,?_⟩);rcases h with (h | ⟨o,h⟩) | h
   ·exact .inl (.inl (s _ _ h))
   ·exact .inl (.inr ⟨o,s _ _ h⟩)
   ·exact .inr h
  ·exact .inr (.inr ⟨e,xs,s _ _ h⟩)
 |int i=>exact h
 |bl b=>exact h
 |str x=>exact h
 |non=>exact h
 |byt b=>exact h
 |flt b=>exact h
 |ty n=>exact h
section
variable{X:Cx}
variable{js:List Nat}{σ:St}{tt:TT}{te:TE}{Q:VK}{H1:Hp}
end
noncomputable def agD(l:List Nat)(lo hi:Option Int):List Nat:=(l.drop (HT.sIx l.length 0 lo)).take (HT.sIx l.length l.length hi-HT.sIx l.length 0 lo)
theorem aHF(v:Option Int)(n d:Nat):(match v with | none=>(d:Int) | some i=>max 0 (min (if i<0 then i+(n:Int) else i) (n:Int)))=((HT.sIx n d v:Nat):Int):=by
 cases v with
 |none=>rfl
 |some i=>
  show max 0 (min (if i<0 then i+(n:Int) else i) (n:Int))=(((if i<0 then (i+(n:Int)).toNat else min i.toNat n):Nat):Int);by_cases h:i<0
  ·rw[if_pos h,if_pos h];omega
  ·rw[if_neg h,if_neg h];omega
theorem aDS(lo hi:Option Int)(n:Nat):Builtin.Str.strSliceIndices lo hi 1 n=sliceRange ((HT.sIx n 0 lo:Nat):Int) ((HT.sIx n n hi:Nat):Int) 1:=by
 unfold Builtin.Str.strSliceIndices;simp only[show ((1:Int)>0)=True from by simp,if_true];rw[←aHF lo n 0,←aHF hi n n];cases lo<;>cases hi<;>rfl
theorem at8(a b:Nat):sliceRange (a:Int) (b:Int) 1=(List.range (b-a)).map λk=>a+k:=by
 rcases cL a b with c | c
 ·have up:(a:Int)<b:=⋯;have many:(((b:Int)-a+1-1) / 1).toNat=b-a:=by rw[Int.ediv_one];omega
  have e:∀k:Nat,((a:Int)+1*(k:Int)).toNat=a+k:=λk=>by omega
  simp only[sliceRange,gt_iff_lt,Int.one_pos,if_true,up,many,e]
 ·have no:¬((a:Int)<b):=⋯;have z:b-a=0:=⋯;simp only[sliceRange,gt_iff_lt,Int.one_pos,if_true,no,if_false,z,List.range_zero,List.map_nil];rfl
theorem azM(l:List Nat)(n a:Nat):((List.range n).map λk=>a+k).filterMap (λi=>(Tx l).cps[i]?)=(l.drop a).take n:=by
 rw[List.filterMap_map];induction n with
 |zero=>rw[List.take_zero];rfl
 |succ n ih=>
  have one:[n].filterMap ((λi=>(Tx l).cps[i]?) ∘ λk=>a+k)=(l[a+n]?).toList:=by
   show List.filterMap _ [n]=_;cases e:l[a+n]? <;>simp[e]
  rw[List.range_succ,eF,ih,one,List.take_add_one,List.getElem?_drop]
theorem aKW(l:List Nat)(lo hi:Option Int):(Builtin.Str.strSliceIndices lo hi 1 l.length).filterMap (λi=>(Tx l).cps[i]?)=agD l lo hi:=by
 rw[aDS,at8,azM];rfl
theorem ayT(l:List Nat)(lo hi:Option Int)(h:(Builtin.Str.strSliceIndices lo hi 1 l.length).length=l.length):agD l lo hi=l:=by
 rw[aDS,at8,aR,cJ] at h;have h1:=HT.sIx_le l.length l.length (aQ _) hi;have e1:HT.sIx l.length 0 lo=0∨l.length=0:=⋯;unfold agD;rcases e1 with e | e
 ·rw[e];have:HT.sIx l.length l.length hi=l.length:=⋯;rw[this];simp
 ·have:l=[]:=List.eq_nil_of_length_eq_zero e;subst this;simp
theorem ahK(l:List Nat)(lo hi:Option Int):(agD l lo hi).length<=l.length:=by
 unfold agD;rw[dE,dH];omega
section
variable{X:Cx}
def rSlX:V->Option Int->Option Int->Hp->VK->Prop:=λx lo hi H Q=>∃l:List Nat,x=.str (Tx l)/\l.length<=sizeLine/\Q (.str (Tx (agD l lo hi))) H
theorem slX:Sls X rSlX:=by
 refine⟨λpins s σ H x v vl vu lo hi sl Q I rx hs pl pu h=>?_⟩;obtain⟨l,rfl,hz,q⟩:=h;obtain⟨t,rfl⟩:=rx;refine⟨"str",_,PySem.F.slot_str_getitem.lookup,typeIs_str _ _ _,?_⟩;obtain⟨o,ho,hc,hd⟩:=hs;have fin:∀(a b:Option (Int×Tok)),o.data=.fields #[partValue a,partValue b,.none]->a.map (·.1)=lo->b.map (·.1)=hi->wpAny (model X.prog X.w) X.A (getItem (.str (Tx l) t) (.ref sl)) (EP X pins σ Q) X.xe s:=λa b hd ea eb=>by
  refine wpAny_getItem_str_slice (l:=a) (u:=b) (st:=none) ⟨o,ho,hc,hd⟩ rfl ?_;have ep:slicePicked (Tx l) a b none=Builtin.Str.strSliceIndices lo hi 1 l.length:=by unfold slicePicked;rw[ea,eb,abP];rfl
  unfold sliceMade;rw[ep];split
  ·next hw=>
   have hw2:(Builtin.Str.strSliceIndices lo hi 1 l.length).length=l.length:=by
    have:=(Bool.and_eq_true_iff.mp hw).2;rw[abP] at this;exact beq_iff_eq.mp this
   show EP X pins σ Q _ s;rw[ayT l lo hi hw2] at q;exact⟨.str (Tx l),H,I,⟨t,rfl⟩,q⟩
  ·rw[aKW];exact⟨by rw[abP];exact bL (ahK l lo hi) hz,⟨.str (Tx (agD l lo hi)),H,I.tok _,⟨()⟩,q⟩⟩
 cases pl with
 |none=>
  cases pu with
  |none=>exact fin none none hd rfl rfl
  |int j tj=>exact fin none (some (j,tj)) hd rfl rfl
 |int i ti=>
  cases pu with
  |none=>exact fin (some (i,ti)) none hd rfl rfl
  |int j tj=>exact fin (some (i,ti)) (some (j,tj)) hd rfl rfl
theorem aKH(m:Nat):num m≠[]:=λe=>Nat.toDigits_ne_nil (List.map_eq_nil_iff.mp e)
variable{prog:Program}{w:World}{A:Around}{E:Value->Shared->Prop}{s:Shared}{I:Addr}{fp wr:List Addr}{G:Array GenState->Array GenState->Prop}{n:Nat}{P:Nat->Value->Prop}{St:Nat->Shared->Prop}
variable{o e:Expr}{to te:TE}{p rpos apos cpos:Pos}
end
theorem asW{X:Cx}{e:Expr}{t u:TE}(h:E X e t)(h':E X e u):E X e (λσ H Q=>t σ H Q∨u σ H Q):=
 ⟨λpins s σ H Q I z=>z.elim (λz=>h.h pins s σ H Q I z) λz=>h'.h pins s σ H Q I z⟩
section
variable{X:Cx}
end
section
variable{κ:Type}[DecidableEq κ]
noncomputable def adB(kvs:List (κ×V))(k:κ):Option V:=(kvs.find? λkv=>decide (kv.1=k)).map (·.2)
noncomputable def ag4(kvs:List (κ×V))(k:κ)(v:V):List (κ×V):=
 if (kvs.any λkv=>decide (kv.1=k))=true then kvs.map (λkv=>if kv.1=k then (kv.1,v) else kv) else kvs++[(k,v)]
theorem abW{p:κ×V}{r:List (κ×V)}{k:κ}(e:p.1=k):adB (p::r) k=some p.2:=by simp[adB,dX,e]
theorem abU{p:κ×V}{r:List (κ×V)}{k:κ}(e:¬p.1=k):adB (p::r) k=adB r k:=by simp[adB,dX,e]
theorem aiA(k:κ):∀kvs:List (κ×V),(kvs.any λkv=>decide (kv.1=k))=(adB kvs k).isSome
 |[]=>rfl
 |p::r=>by
  rw[bQ];by_cases e:p.1=k
  ·simp only[abW e,eZ e,Bool.true_or,Option.isSome_some]
  ·rw[abU e,fC e,dG];exact aiA k r
theorem auF(k j:κ)(y:V):∀kvs:List (κ×V),adB (kvs.map λkv=>if kv.1=k then (kv.1,y) else kv) j=(adB kvs j).map λx=>if j=k then y else x
 |[]=>rfl
 |p::r=>by
  have ih:=auF k j y r;rw[bG];by_cases h:p.1=k
  ·rw[if_pos h];by_cases e:p.1=j
   ·rw[abW (p:=(p.1,y)) e,abW e,dU,if_pos (e.symm.trans h)]
   ·rw[abU (p:=(p.1,y)) e,abU e,ih]
  ·rw[if_neg h];by_cases e:p.1=j
   ·rw[abW (p:=p) e,abW e,dU,if_neg (λz=>h (e.trans z))]
   ·rw[abU (p:=p) e,abU e,ih]
theorem aoP(k j:κ)(y:V):∀kvs:List (κ×V),adB kvs k=none->adB (kvs++[(k,y)]) j=if j=k then some y else adB kvs j
 |[],_=>by
  by_cases e:k=j
  ·rw[if_pos e.symm];exact abW (p:=(k,y)) e
  ·rw[if_neg (λz=>e z.symm)];exact abU (p:=(k,y)) e
 |p::r,hn=>by
  rw[List.cons_append];have hk:¬p.1=k:=λz=>by rw[abW z] at hn;cases hn
  rw[abU hk] at hn;have ih:=aoP k j y r hn;by_cases e:p.1=j
  ·rw[abW e,abW e,if_neg (λz=>hk (e.trans z))]
  ·rw[abU e,abU e,ih]
theorem asN(kvs:List (κ×V))(k j:κ)(y:V):adB (ag4 kvs k y) j=if j=k then some y else adB kvs j:=by
 unfold ag4;by_cases a:(kvs.any λkv=>decide (kv.1=k))=true
 ·rw[if_pos a,auF];rw[aiA] at a;by_cases e:j=k
  ·obtain⟨x,hx⟩:=dP.mp a;rw[if_pos e,e,hx,dU,if_pos rfl]
  ·rw[if_neg e];cases adB kvs j with
   |none=>rfl
   |some x=>rw[dU,if_neg e]
 ·rw[if_neg a];refine aoP k j y kvs ?_;rw[aiA] at a;cases q:adB kvs k with
  |none=>rfl
  |some x=>rw[q] at a;exact (a rfl).elim
theorem afB(kvs:List (κ×V))(k:κ)(v:V):(ag4 kvs k v).length<=kvs.length+1:=by
 unfold ag4;split
 ·rw[aR];omega
 ·rw[aY,bZ,List.length_nil];omega
theorem RelO.isSome_eq{o:Option V}{u:Option Value}(r:RelO o u):o.isSome=u.isSome:=by
 cases o with
 |none=>cases u with
  |none=>rfl
  |some _=>exact (show False from r).elim
 |some _=>cases u with
  |none=>exact (show False from r).elim
  |some _=>rfl
theorem KV.val{kvs:List (κ×V)}{vs:List (κ×Value)}(r:KV kvs vs)(k:κ):RelO (adB kvs k) (valueAt vs k):=by
 unfold KV at r;induction r with
 |nil=>exact True.intro
 |@cons p q ps qs h t ih=>
  obtain⟨h1,h2⟩:=h;by_cases e:p.1=k
  ·have e':q.1=k:=h1.symm.trans e;have b:valueAt (q::qs) k=some q.2:=by simp[valueAt,dX,e']
   rw[abW e,b];exact h2
  ·have e':¬q.1=k:=λz=>e (h1.trans z);have b:valueAt (q::qs) k=valueAt qs k:=by simp[valueAt,dX,e']
   rw[abU e,b];exact ih
theorem KV.any{kvs:List (κ×V)}{vs:List (κ×Value)}(r:KV kvs vs)(k:κ):(kvs.any λkv=>decide (kv.1=k))=vs.any λkv=>decide (kv.1=k):=by
 unfold KV at r;induction r with
 |nil=>rfl
 |cons h t ih=>rw[bQ,bQ,ih,h.1]
theorem KV.repl{kvs:List (κ×V)}{vs:List (κ×Value)}(r:KV kvs vs)(k:κ){y:V}{u:Value}(ry:RelV y u):
  KV (kvs.map λkv=>if kv.1=k then (kv.1,y) else kv) (vs.map λkv=>if kv.1=k then (kv.1,u) else kv):=by
 unfold KV at r ⊢;induction r with
 |nil=>exact .nil
 |@cons p q ps qs h t ih=>
  rw[bG,bG];refine .cons ?_ ih;obtain⟨h1,h2⟩:=h;by_cases e:p.1=k
  ·rw[if_pos e,if_pos (h1.symm.trans e)];exact⟨h1,ry⟩
  ·rw[if_neg e,if_neg (λz=>e (h1.trans z))];exact⟨h1,h2⟩
theorem KV.put{kvs:List (κ×V)}{vs:List (κ×Value)}(r:KV kvs vs)(k:κ){y:V}{u:Value}(ry:RelV y u):KV (ag4 kvs k y) (stored vs k u):=by
 unfold ag4 stored;rw[r.any k];by_cases e:(vs.any λkv=>decide (kv.1=k))=true
 ·rw[if_pos e,if_pos e];exact r.repl k ry
 ·rw[if_neg e,if_neg e];exact Paired.snoc r ⟨rfl,ry⟩
theorem KV.length{kvs:List (κ×V)}{vs:List (κ×Value)}(r:KV kvs vs):kvs.length=vs.length:=Paired.length r
end
theorem auE{P:Program}{w:World}{k:Key}{u:Value}(r:RelV (kV k) u):(abK P w).is k u=true:=by
 cases k with
 |inl i=>obtain⟨t,e⟩:=(show ∃t,u=Value.int i t from r);subst e;exact auK P w i t
 |inr x=>obtain⟨t,e⟩:=(show ∃t,u=Value.str x t from r);subst e;exact atX P w x t
theorem ac0{P:Program}{w:World}:∀{ks:List Key} {us:List Value},Vals (ks.map kV) us->ItemsAre (abK P w) ks us
 |[],_,r=>by rw[List.map_nil] at r;cases r;exact .nil
 |k::ks,_,r=>by
  rw[bG] at r;cases r with
  |cons h t=>exact .cons (auE h) (ac0 t)
abbrev KT(H:Hp):List (List Key×V)->List (List Key×Addr×Value)->Prop:=Paired λp q=>p.1=q.1/\H q.2.1=some (.tup (p.1.map kV))/\RelV p.2 q.2.2
theorem KT.val{H:Hp}{kvs:List (List Key×V)}{xs:List (List Key×Addr×Value)}(r:KT H kvs xs)(k:List Key):RelO (adB kvs k) ((atKey xs k).map (·.2)):=by
 induction r with
 |nil=>exact True.intro
 |@cons p q ps qs h t ih=>
  obtain⟨h1,_,h2⟩:=h;by_cases e:p.1=k
  ·have e':q.1=k:=h1.symm.trans e;have b:atKey (q::qs) k=some q.2:=by simp[atKey,dX,e']
   rw[abW e,b];exact h2
  ·have e':¬q.1=k:=λz=>e (h1.trans z);have b:atKey (q::qs) k=atKey qs k:=by simp[atKey,dX,e']
   rw[abU e,b];exact ih
theorem KT.repl{H:Hp}{kvs:List (List Key×V)}{xs:List (List Key×Addr×Value)}(r:KT H kvs xs)(k:List Key){y:V}{u:Value}(ry:RelV y u):
  KT H (kvs.map λkv=>if kv.1=k then (kv.1,y) else kv) (xs.map (putAt k u)):=by
 induction r with
 |nil=>exact .nil
 |@cons p q ps qs h t ih=>
  rw[bG,bG];refine .cons ?_ ih;obtain⟨h1,h2,h3⟩:=h;unfold putAt;by_cases e:p.1=k
  ·rw[if_pos e,if_pos (h1.symm.trans e)];exact⟨h1,h2,ry⟩
  ·rw[if_neg e,if_neg (λz=>e (h1.trans z))];exact⟨h1,h2,h3⟩
theorem KT.put{H:Hp}{kvs:List (List Key×V)}{xs:List (List Key×Addr×Value)}(r:KT H kvs xs)(k:List Key){b:Addr}{y:V}{u:Value}(hb:H b=some (.tup (k.map kV)))(ry:RelV y u):
  KT H (ag4 kvs k y) (storedH xs k b u):=by
 have e:(kvs.any λkv=>decide (kv.1=k))=(atKey xs k).isSome:=by
  rw[aiA,(r.val k).isSome_eq,Option.isSome_map]
 unfold ag4 storedH;rw[e];by_cases q:(atKey xs k).isSome=true
 ·rw[if_pos q,if_pos q];exact r.repl k ry
 ·rw[if_neg q,if_neg q];exact Paired.snoc r ⟨rfl,hb,ry⟩
theorem KT.keeps{H H':Hp}{kvs:List (List Key×V)}{xs:List (List Key×Addr×Value)}(r:KT H kvs xs)(ht:∀b ys,H b=some (.tup ys)->H' b=some (.tup ys)):KT H' kvs xs:=
 Paired.mapP r λ_ _ z=>⟨z.1,ht _ _ z.2.1,z.2.2⟩
section
variable{P:Program}{w:World}{H:Hp}{h:Heap}{a:Addr}
theorem aHV{u:HO}(ok:HOk P w H h)(e:Rd H a u):ObjOk P w H h a u:=e.ok ok
theorem awV{kvs:List (Key×V)}(ok:HOk P w H h)(e:Rd H a (.dK kvs)):kvs.length<=sizeLine/\(a==sysModules)=false/\∃vs,KV kvs vs/\h.DictOf (abK P w) a vs:=
 show ObjOk P w H h a (.dK kvs) from aHV ok e
theorem aTJ{kvs:List (Key×V)}(ok:HOk P w H h)(e:H a=some (.dK kvs)):kvs.length<=sizeLine/\(a==sysModules)=false/\∃vs,KV kvs vs/\h.DictOf (abK P w) a vs:=awV ok (.inl e)
theorem arP{ks:List Key}(ok:HOk P w H h)(e:H a=some (.tup (ks.map kV))):(tupleKind (abK P w)).is h ks a:=by
 obtain⟨_,its,r,o,h1,h2,n,h3⟩:=(show ObjOk P w H h a (.tup (ks.map kV)) from ok a _ e);exact⟨o,its.toArray,n,h1,h2,h3,by simpa using ac0 r⟩
theorem ayM{kvs:List (List Key×V)}(ok:HOk P w H h)(e:Rd H a (.dT kvs)):kvs.length<=sizeLine/\(a==sysModules)=false/\
  ∃xs,KT H kvs xs/\h.DictOfH (tupleKind (abK P w)) a xs:=by
 obtain⟨z,y,xs,r,o,es,ep,h1,h2,h3,h4,h5⟩:=(show ObjOk P w H h a (.dT kvs) from aHV ok e);refine⟨z,y,xs,r,o,es,ep,h1,h2,h3,h4,λx hx=>?_,h5⟩;have all:∀{l:List (List Key×V)} {m:List (List Key×Addr×Value)},KT H l m->∀x∈m,(tupleKind (abK P w)).is h x.1 x.2.1:=by
  intro l m q;induction q with
  |nil=>intro x hx;exact nomatch hx
  |@cons p q ps qs hq t ih=>
   intro x hx;rcases aX.mp hx with e | hx
   ·subst e;exact arP ok (by rw[←hq.1];exact hq.2.1)
   ·exact ih x hx
 exact all r x hx
theorem aPO{kvs:List (List Key×V)}(ok:HOk P w H h)(e:H a=some (.dT kvs)):kvs.length<=sizeLine/\(a==sysModules)=false/\
  ∃xs,KT H kvs xs/\h.DictOfH (tupleKind (abK P w)) a xs:=ayM ok (.inl e)
end
def DGet(H:Hp)(a:Addr)(y:V)(r:Option V):Prop:=
 (∃kvs k,Rd H a (.dK kvs)/\y=kV k/\r=adB kvs k)∨∃kvs k b,Rd H a (.dT kvs)/\y=.ref b/\H b=some (.tup (k.map kV))/\r=adB kvs k
def DPut(H:Hp)(a:Addr)(y v:V)(H':Hp):Prop:=
 (∃kvs k,H a=some (.dK kvs)/\y=kV k/\kvs.length<sizeLine/\H'=upd H a (.dK (ag4 kvs k v)))∨
 ∃kvs k b,H a=some (.dT kvs)/\y=.ref b/\H b=some (.tup (k.map kV))/\kvs.length<sizeLine/\H'=upd H a (.dT (ag4 kvs k v))
theorem DGet.k{H:Hp}{a:Addr}{kvs:List (Key×V)}{k:Key}(e:H a=some (.dK kvs)):DGet H a (kV k) (adB kvs k):=.inl ⟨kvs,k,.inl e,rfl,rfl⟩
theorem DGet.t{H:Hp}{a b:Addr}{kvs:List (List Key×V)}{k:List Key}(e:H a=some (.dT kvs))(eb:H b=some (.tup (k.map kV))):DGet H a (.ref b) (adB kvs k):=.inr ⟨kvs,k,b,.inl e,rfl,eb,rfl⟩
theorem DPut.k{H:Hp}{a:Addr}{kvs:List (Key×V)}{k:Key}{v:V}(e:H a=some (.dK kvs))(hl:kvs.length<sizeLine):DPut H a (kV k) v (upd H a (.dK (ag4 kvs k v))):=.inl ⟨kvs,k,e,rfl,hl,rfl⟩
theorem DPut.t{H:Hp}{a b:Addr}{kvs:List (List Key×V)}{k:List Key}{v:V}(e:H a=some (.dT kvs))(eb:H b=some (.tup (k.map kV)))(hl:kvs.length<sizeLine):
  DPut H a (.ref b) v (upd H a (.dT (ag4 kvs k v))):=.inr ⟨kvs,k,b,e,rfl,eb,hl,rfl⟩
section
variable{X:Cx}{pins:List (Addr×Obj)}{σ:St}{H:Hp}{s:Shared}{a:Addr}{y v:V}{u r:Value}{o:Option V}{A:Around}{E:Value->Shared->Prop}
theorem azR{Q:Value->Shared->Prop}(hu:A.units+1<cLine)(I:Inv X pins σ H s)(g:DGet H a y (some v))(ry:RelV y u)(h:∀w' s',Inv X pins σ H s'->RelV v w'->Q w' s'):
  wpAny (model X.prog X.w) A (getItem (.ref a) u) Q E s:=by
 rcases g with ⟨kvs,k,e,ey,l⟩ | ⟨kvs,k,b,e,ey,eb,l⟩
 ·subst ey;obtain⟨z,hd,vs,rel,dd⟩:=awV I.hok e;obtain⟨w',hw,rw'⟩:=RelO.some_of (v:=v) (o:=valueAt vs k) (by rw[l];exact rel.val k);exact wpAny_getItem_of (auE ry) dd.mapOf hw (h w' _ (I.tok _) rw')
 ·subst ey;cases (show u=Value.ref b from ry);obtain⟨z,hd,xs,rel,dd⟩:=ayM I.hok e;obtain⟨w',hw,rw'⟩:=RelO.some_of (v:=v) (o:=(atKey xs k).map (·.2)) (by rw[l];exact rel.val k);obtain⟨p,hp,hp2⟩:=Option.map_eq_some_iff.mp hw;refine wpAny_getItem_heap (tupleKind_room_in1 hu) (arP I.hok eb) dd hp ?_;rw[hp2];exact h w' _ (I.tok _) rw'
theorem aGP{Q:Value->Shared->Prop}(hu:A.units+1<cLine)(I:Inv X pins σ H s)(g:DGet H a y o)(ry:RelV y u)(h:∀s',Inv X pins σ H s'->Q (.bool (!o.isSome)) s'):
  wpAny (model X.prog X.w) A (compareOp .NotIn u (.ref a)) Q E s:=by
 rcases g with ⟨kvs,k,e,ey,l⟩ | ⟨kvs,k,b,e,ey,eb,l⟩
 ·subst ey;obtain⟨z,hd,vs,rel,dd⟩:=awV I.hok e;refine wpAny_notIn_of (auE ry) hd dd.mapOf ?_;rw[←(rel.val k).isSome_eq,←l];exact h _ (I.tok _)
 ·subst ey;cases (show u=Value.ref b from ry);obtain⟨z,hd,xs,rel,dd⟩:=ayM I.hok e;refine wpAny_notIn_heap (tupleKind_room_in1 hu) (arP I.hok eb) hd dd ?_;have q:=(rel.val k).isSome_eq;rw[Option.isSome_map] at q;rw[←q,←l];exact h _ (I.tok _)
theorem axF{h':Heap}{t':Nat}{ob:HO}(I:Inv X pins σ H s)(mu:Mut (H a))(hs:Heap.SameBut a s.heap h')(he:∃q,h'.get? a=some q)(new:ObjOk X.prog X.w (upd H a ob) h' a ob):
  Inv X pins σ (upd H a ob) {s with heap:=h',toks:=t'}:=
 I.write (x:=a) (e:=a) mu (.inl rfl) (λb q hb z=>(hs.2 b hb).trans z) he new
theorem aJH{P:Program}{w:World}{H':Hp}{h':Heap}{kvs:List (Key×V)}{vs:List (Key×Value)}(z:kvs.length<=sizeLine)(hd:(a==sysModules)=false)(rel:KV kvs vs)(dd:h'.DictOf (abK P w) a vs):
  ObjOk P w H' h' a (.dK kvs):=⟨z,hd,vs,rel,dd⟩
theorem azB{H':Hp}{Q:Unit->Shared->Prop}(hu:A.units+1<cLine)(I:Inv X pins σ H s)(g:DPut H a y v H')(ry:RelV y u)(rv:RelV v r)(h:∀s',Inv X pins σ H' s'->Q () s'):
  wpAny (model X.prog X.w) A (setItem (.ref a) u r) Q E s:=by
 rcases g with ⟨kvs,k,e,ey,l,eH⟩ | ⟨kvs,k,b,e,ey,eb,l,eH⟩
 ·subst ey eH;obtain⟨z,hd,vs,rel,dd⟩:=aTJ I.hok e;have hz:vs.length<=sizeLine:=by rw[←rel.length];exact z
  have hl:(ag4 kvs k v).length<=sizeLine:=by have:=afB kvs k v;omega
  refine wpAny_setItem_pairs (hsz:=hz) (auE ry) dd λh' dd' hs=>h _ ?_;have he:∃q,h'.get? a=some q:=let ⟨q,_,_,hq,_⟩:=dd';⟨q,hq⟩;exact axF I (by rw[e];exact True.intro) hs he (aJH hl hd (rel.put k rv) dd')
 ·subst ey eH;cases (show u=Value.ref b from ry);obtain⟨z,hd,xs,rel,dd⟩:=aPO I.hok e;have hz:xs.length<=sizeLine:=by rw[←Paired.length rel];exact z
  have hl:(ag4 kvs k v).length<=sizeLine:=by have:=afB kvs k v;omega
  refine wpAny_setItem_heap (hsz:=hz) (tupleKind_room_in1 hu) (arP I.hok eb) dd λh' dd' hs=>h _ ?_;obtain⟨q,es,ep,hq,h2,h3,h4,_,h5⟩:=dd';refine axF I (by rw[e];exact True.intro) hs ⟨q,hq⟩ ⟨hl,hd,_,(rel.put k eb rv).keeps λc ys ec=>?_,q,es,ep,hq,h2,h3,h4,h5⟩;rw[aaD (aSB ec e (λz=>nomatch z))];exact ec
variable{kvs:List (Key×V)}{k:Key}
end
def aFW(i:Expr):Prop:=∀ov iv,subscripted i false ov iv=operate [ov,iv] (getItem ov iv)
theorem axR{prog:Program}{w:World}{A:Around}{E:Value->Shared->Prop}{s:Shared}{env:Env}{value slice:Expr}{pos:Pos}{T id:String}{Q:Value->Shared->Prop}
  (hl:typeLookup (.type T) "__getitem__"=pure (some (.builtin id))) (hs:aFW slice)
  (h:wpAny (model prog w) A (eval value env) (λo s₁=>wpAny (model prog w) A (eval slice env) (λi s₂=>s₂.TypeIs o T/\wpAny (model prog w) A (getItem o i) Q E s₂) E s₁) E s):
  wpAny (model prog w) A (eval (.Subscript value slice pos) env) Q E s:=by
 refine Subscript_ (eQ h (λo s₁ h₁=>eQ h₁ (λi s₂ h₂=>?_) λ_ _ x=>x) λ_ _ x=>x);obtain⟨hT,h₂⟩:=h₂;unfold subscriptTail;refine eP ?_;rw[getitemInPython_of_ne hT.not_modules];refine eP (wpAny_specialOf hT hl ?_);have fin:wpAny (model prog w) A (subscripted slice false o i) (λr s₃=>wpAny (model prog w) A (letTemporaryGo value o r >>=λ_=>pure r) Q E s₃) E s₂:=by
  rw[hs o i];exact wpAny_operating (eQ h₂ (λr s₃ h₃=>eP (wpAny_letTemporaryGo (fF h₃))) λ_ _ x=>x)
 first
  |exact fF (eP fin)
  |exact eP (fF (eP fin))
  |exact eP fin
theorem atY{X:Cx}{pins:List (Addr×Obj)}{σ:St}{H:Hp}{s:Shared}{a:Addr}{y:V}{o:Option V}(I:Inv X pins σ H s)(g:DGet H a y o):s.TypeIs (.ref a) "dict":=by
 rcases g with ⟨kvs,k,e,_,_⟩ | ⟨kvs,k,b,e,_,_,_⟩
 ·obtain⟨_,_,vs,_,dd⟩:=awV I.hok e;exact dd.typeIs
 ·obtain⟨_,_,xs,_,dd⟩:=ayM I.hok e;exact dd.typeIs
def aHO(td ty:TE):TE:=λσ H Q=>td σ H λx H1=>ty σ H1 λy H2=>∃a v,x=.ref a/\DGet H2 a y (some v)/\Q v H2
def ax9(ty td:TE):TE:=λσ H Q=>ty σ H λy H1=>td σ H1 λx H2=>∃a o,x=.ref a/\DGet H2 a y o/\Q (.bl (!o.isSome)) H2
def aG0(td ty tv:TE):TS:=λD σ H=>tv σ H λv H1=>td σ H1 λx H2=>ty σ H2 λy H3=>∃a H4,x=.ref a/\DPut H3 a y v H4/\D.nx σ H4
section
variable{X:Cx}{o i e value:Expr}{pos pos' tpos:Pos}{td ty tv:TE}
theorem aGO(hu:X.A.units+1<cLine)(ho:PE X o td)(hi:PE X i ty)(hs:aFW i):PE X (.Subscript o i pos) (aHO td ty):=by
 intro pins s σ H Q I h;refine axR PySem.F.slot_dict_getitem.lookup hs (thn (ho pins s σ H _ I h) λu s1 ⟨x,H1,I1,rx,q1⟩=>thn (hi pins s1 σ H1 _ I1 q1) λiv s2 ⟨y,H2,I2,ry,a,v,ex,g,q2⟩=>?_);subst ex;obtain rfl:u=Value.ref a:=rx;exact⟨atY I2 g,azR hu I2 g ry λw' s3 I3 rw'=>⟨v,H2,I3,rw',q2⟩⟩
theorem az7(hu:X.A.units+1<cLine)(hi:PE X i ty)(ho:PE X o td):PC X .NotIn i o (ax9 ty td):=by
 intro pins s σ H Q I h;refine thn (hi pins s σ H _ I h) λiv s1 ⟨y,H1,I1,ry,q1⟩=>thn (ho pins s1 σ H1 _ I1 q1) λu s2 ⟨x,H2,I2,rx,a,ov,ex,g,q2⟩=>?_;subst ex;obtain rfl:u=Value.ref a:=rx;exact aGP hu I2 g ry λs3 I3=>⟨.bl (!ov.isSome),H2,I3,rfl,q2⟩
theorem aFM(hu:X.A.units+1<cLine)(ho:PE X o td)(hi:PE X i ty)(hv:PE X value tv)(hs:swapsWith value (some (.Subscript o i pos')) pos.line X.env=pure false):
  PS X (.Assign [.Subscript o i pos'] value pos) (aG0 td ty tv):=by
 intro pins s σ H D I h;refine wpAny_Assign_Subscript (thn (hv pins s σ H _ I h) λr s1 ⟨v,H1,I1,rv,q1⟩=>thn (ho pins s1 σ H1 _ I1 q1) λu s2 ⟨x,H2,I2,rx,q2⟩=>thn (hi pins s2 σ H2 _ I2 q2) λiv s3 ⟨y,H3,I3,ry,a,H4,ex,g,q3⟩=>?_) hs;subst ex;obtain rfl:u=Value.ref a:=rx;exact azB hu I3 g ry rv λs4 I4=>⟨σ,H4,I4,q3⟩
end
structure M1(X:Cx)(o:Expr)(m:Str)(apos:Pos)(e:Expr)(cpos:Pos):Prop where
 base:attributeBase o m X.env (eval o X.env)=eval o X.env
 few:((backTo cpos (starEach [e] X.env)).all (λx=> !x.1)&&(backToKw cpos (keywordEach [] X.env)).all (λx=>x.1.isSome)
  &&decide (([e]:List Expr).length+([]:List Keyword).length+(if ([]:List Keyword).isEmpty then 0 else 1)<30))=true
 line:(apos.endLine==cpos.line)=true
 trees:backTo cpos (starEach [e] X.env)=[(false,eval e X.env)]
section
variable{X:Cx}{pins:List (Addr×Obj)}{σ:St}{H:Hp}{s:Shared}{a:Addr}{y d:V}{u r:Value}{o:Option V}{A:Around}{E:Value->Shared->Prop}
end
section
variable{X:Cx}{o e f:Expr}{apos cpos:Pos}{td ty tx:TE}
variable{pins:List (Addr×Obj)}{σ:St}{H:Hp}{s:Shared}{a:Addr}{kvs:List (Key×V)}{A:Around}{E:Value->Shared->Prop}
variable{y:V}{u:Value}
end
section
variable{X:Cx}{k:Nat}{o i kx vx:Expr}{td ty tk tv:TE}{pos:Pos}{keys:List (Option Expr)}{values:List Expr}{trs:List (TE×TE)}
theorem ag6{A:Around}(hr:Room k A):A.units+1<cLine:=by have:=hr.un;omega
theorem eDg(hr:Room k X.A)(ho:E X o td)(hi:E X i ty)(hs:aFW i:=by intro _ _;rfl):E X (.Subscript o i pos) (aHO td ty):=⟨aGO (ag6 hr) ho.h hi.h hs⟩
theorem aCC:Op2 X (binaryOp .Mult) aTP:=⟨aIU⟩
end
def Rise(xs:Array Nat):Prop:=xs.toList.Pairwise (·<·)
theorem Rise.lt{xs:Array Nat}(h:Rise xs){i k x y:Nat}(hi:xs[i]? =some x)(hk:xs[k]? =some y)(l:i<k):x<y:=by
 rw[←cI] at hi hk;obtain⟨h1,e1⟩:=cC.mp hi;obtain⟨h2,e2⟩:=cC.mp hk;have:=List.pairwise_iff_getElem.mp h i k h1 h2 l;rw[e1,e2] at this;exact this
def Cut(xs:Array Nat)(j r:Nat):Prop:=r<=xs.size/\(∀i x,i<r->xs[i]? =some x->x<j)/\∀i x,r<=i->xs[i]? =some x->j<=x
theorem anB{xs:Array Nat}{j:Nat}(hr:Rise xs):∀fuel lo hi:Nat,lo<=hi->hi<=xs.size->hi-lo<=fuel->(∀i x,i<lo->xs[i]? =some x->x<j)->(∀i x,hi<=i->xs[i]? =some x->j<=x)->Cut xs j (SetTable.below.go xs j fuel lo hi)
 |0,lo,hi,h1,h2,h3,a,b=>by
  have e:lo=hi:=⋯;subst e;exact⟨h2,a,b⟩
 |f+1,lo,hi,h1,h2,h3,a,b=>by
  unfold SetTable.below.go;by_cases c:lo<hi
  ·rw[if_pos c];have hm:(lo+hi) / 2<xs.size:=⋯;have em:xs[(lo+hi) / 2]? =some xs[(lo+hi) / 2]:=cX hm;have eg:xs.getD ((lo+hi) / 2) j=xs[(lo+hi) / 2]:=by rw[Array.getD_eq_getD_getElem?,em];rfl
   dsimp only;rw[eg];by_cases d:xs[(lo+hi) / 2]<j
   ·rw[if_pos d];refine anB hr f _ _ ⋯ h2 ⋯ (λi x hl hx=>?_) b;by_cases q:i=(lo+hi) / 2
    ·subst q;rw[em] at hx;cases hx;exact d
    ·exact Nat.lt_trans (hr.lt hx em ⋯) d
   ·rw[if_neg d];refine anB hr f _ _ ⋯ ⋯ ⋯ a λi x hl hx=>?_;by_cases q:i=(lo+hi) / 2
    ·subst q;rw[em] at hx;cases hx;omega
    ·have:=hr.lt em hx ⋯;omega
  ·rw[if_neg c];have e:lo=hi:=⋯;subst e;exact⟨h2,a,b⟩
theorem ajV{xs:Array Nat}(hr:Rise xs)(j:Nat):Cut xs j (SetTable.below xs j):=
 anB hr _ _ _ (bM _) (aQ _) (aQ _) (λ_ _ h=>absurd h (dB _)) λi x h hx=>by
  obtain⟨z,_⟩:=Array.getElem?_eq_some_iff.mp hx;omega
theorem aE0{xs:Array Nat}{j:Nat}(hr:Rise xs)(h:(xs[SetTable.below xs j]? ==some j)=false):∀x∈xs.toList,x≠j:=λx hx e=>by
 obtain⟨i,hi,ei⟩:=List.mem_iff_getElem.mp hx;have e1:xs[i]? =some x:=by rw[←cI,bW hi,ei]
 subst e;obtain⟨c1,c2,c3⟩:=ajV hr x;have h1:¬i<SetTable.below xs x:=λz=>cR _ (c2 i x z e1);by_cases q:i=SetTable.below xs x
 ·rw[←q,e1] at h;simp at h
 ·have hs:SetTable.below xs x<xs.size:=by
   obtain⟨z,_⟩:=Array.getElem?_eq_some_iff.mp e1;omega
  have e2:xs[SetTable.below xs x]? =some xs[SetTable.below xs x]:=cX hs;have:=c3 _ _ (aQ _) e2;have:=hr.lt e2 e1 ⋯;omega
theorem aA7{α:Type}(xs:Array α)(p:Nat)(x:α):(SetTable.insertAt xs p x).toList=xs.toList.take p++x::xs.toList.drop p:=by
 unfold SetTable.insertAt;simp[List.extract_eq_drop_take];exact eC (by rw[dH,bS];exact aQ _)
theorem aCI{xs:Array Nat}{j:Nat}(hr:Rise xs)(hn:∀x∈xs.toList,x≠j):Rise (SetTable.insertAt xs (SetTable.below xs j) j):=by
 obtain⟨c1,c2,c3⟩:=ajV hr j;unfold Rise;rw[aA7,List.pairwise_append,dJ];have hlow:∀a∈xs.toList.take (SetTable.below xs j),a<j:=λa ha=>by
  obtain⟨i,hi,e⟩:=List.mem_iff_getElem.mp ha;rw[List.getElem_take] at e;rw[dE] at hi;have h2:i<xs.toList.length:=⋯;exact c2 i a ⋯ (by rw[←cI,bW h2,e])
 have hhigh:∀b∈xs.toList.drop (SetTable.below xs j),j<b:=λb hb=>by
  have hb':=List.mem_of_mem_drop hb;obtain⟨i,hi,e⟩:=List.mem_iff_getElem.mp hb;rw[List.getElem_drop] at e;rw[dH] at hi;have h2:SetTable.below xs j+i<xs.toList.length:=⋯;have:=c3 (SetTable.below xs j+i) b ⋯ (by rw[←cI,bW h2,e]);have:=hn b hb';omega
 refine⟨List.Pairwise.sublist (List.take_sublist _ _) hr,⟨hhigh,List.Pairwise.sublist (List.drop_sublist _ _) hr⟩,λa ha b hb=>?_⟩;rcases aX.mp hb with rfl | hb
 ·exact hlow a ha
 ·exact Nat.lt_trans (hlow a ha) (hhigh b hb)
theorem awI(n:Nat):Rise (Array.range n):=by
 unfold Rise;rw[Array.toList_range];exact List.pairwise_lt_range
structure Tab(led:Bool)(t:SetTable):Prop where
 rise:Rise t.place
 dum:t.dummies= #[]
 led:t.led=led
theorem at1(j:Nat):SetTable.has #[] j=false:=by
 unfold SetTable.has;simp
theorem akN{t:SetTable}{led:Bool}(T:Tab led t){h:Int}:∀(f:Nat) (p:SetTable.Probe) (j:Nat) (d:Option Nat),p.dummy=none->SetTable.probe.go t (λ_=>h+1) h f p=some (.empty j d)->d=none/\(t.place[SetTable.below t.place j]? ==some j)=false
 |0,_,_,_,_,e=>by unfold SetTable.probe.go at e;cases e
 |f+1,p,j,d,hp,e=>by
  unfold SetTable.probe.go at e;split at e
  ·next hs=>
   cases e;refine⟨hp,?_⟩;unfold SetTable.slot at hs;dsimp only at hs;split at hs
   ·cases hs
   ·next q=>simpa using q
  ·next hs=>
   unfold SetTable.slot at hs;dsimp only at hs;split at hs
   ·cases hs
   ·rw[T.dum,at1] at hs;cases hs
  ·rw[if_neg (by simp;omega)] at e;refine akN T f _ j d ?_ e;unfold SetTable.advance;split
   ·exact hp
   ·exact hp
theorem af5{led:Bool}{t:SetTable}(T:Tab led t)(n:Nat):Tab led (t.standIn n):=⟨awI n,rfl,T.led⟩
theorem aIX{led:Bool}{t:SetTable}(T:Tab led t)(n:Nat):Tab led (t.orStandIn n):=by
 unfold SetTable.orStandIn;split
 ·exact T
 ·exact af5 T n
theorem aE8{led:Bool}{t:SetTable}(T:Tab led t)(es:Array (Int×Value))(h:Int)(x:Value):Tab led (layNew t es h x).2.1:=by
 unfold layNew;split
 ·next slot wd hf=>
  dsimp only;refine aIX ?_ _;unfold SetTable.freeSlot at hf;split at hf
  ·next j d hp=>
   obtain⟨rfl,hn⟩:=akN T _ _ j d rfl hp;cases hf;refine⟨aCI T.rise (aE0 T.rise hn),?_,T.led⟩;show (if SetTable.has t.dummies j=true then _ else t.dummies)=_;rw[T.dum,at1];rfl
  ·cases hf
 ·exact af5 T _
theorem ay1{led:Bool}{t:SetTable}(T:Tab led t)(es:Array (Int×Value))(n:Nat):Tab led (relayAll t es n).2.1:=by
 unfold relayAll;split
 ·next t' order hl=>
  dsimp only;split
  ·unfold SetTable.relaid SetTable.laid at hl;cases ho:SetTable.layClean (SetTable.sizeAbove n-1) (es.map (·.1)) with
   |none=>rw[ho] at hl;cases hl
   |some owner=>
    rw[ho] at hl;cases hl;refine⟨?_,rfl,T.led⟩;unfold Rise;dsimp only;have key:∀(l:List Nat),l.Pairwise (·<·)->((l.filterMap λj=>(owner.getD j none).map (j,·)).map (·.1)).Pairwise (·<·):=λl hl=>by
     have e:(l.filterMap λj=>(owner.getD j none).map (j,·)).map (·.1)=l.filter λj=>(owner.getD j none).isSome:=by
      induction l with
      |nil=>rfl
      |cons a l ih=>
       have ih:=ih (dJ.mp hl).2;cases q:owner.getD a none with
       |none=>rw[List.filterMap_cons_none (by rw[q];rfl),List.filter_cons_of_neg (by rw[q];simp),ih]
       |some b=>rw[List.filterMap_cons_some (by rw[q];rfl),List.filter_cons_of_pos (by rw[q];rfl),bG,ih]
     rw[e];exact List.Pairwise.sublist List.filter_sublist hl
    exact key _ List.pairwise_lt_range
  ·exact af5 T _
 ·exact af5 T _
noncomputable def zOf:Value->Int
 |.int z _=>z
 |_=>0
noncomputable def acK(es:Array (Int×Value)):List Int:=es.toList.map λe=>zOf e.2
noncomputable def asS(w:World):Bool:= !(w.params.followText "set-order")
structure SetE(prog:Program)(w:World)(es:Array (Int×Value))(t:SetTable):Prop where
 el:ElemsOf (intKind prog w) es.toList
 nd:(acK es).Nodup
 sz:es.size<scanBound
 fit:t.fits es.size=true
 tab:Tab (asS w) t
noncomputable abbrev aa3(es:Array (Int×Value))(ep:Nat)(t:SetTable):Obj:={cls:=.type "set",dict:=none,data:=.set es ep t,slots:= #[]}
section
variable{prog:Program}{w:World}{A:Around}{E:Value->Shared->Prop}{s:Shared}{a:Addr}{es:Array (Int×Value)}{ep:Nat}{t:SetTable}{z:Int}{tk:Tok}
theorem aDY{k:Int}{v:Value}(h:(intKind prog w).is k v=true):∃t,v=.int k t:=Value.isInt_shape h
theorem aAP{e:Int×Value}(h:ElemsOf (intKind prog w) es.toList)(he:e∈es.toList):∃t,e.2=.int (zOf e.2) t:=by
 obtain⟨⟨k,hk,_⟩,_⟩:=h e he;obtain⟨t,e2⟩:=aDY hk;exact⟨t,by rw[e2];rfl⟩
theorem ayA{es es':Array (Int×Value)}(p:es'.toList.Perm es.toList):(acK es').Perm (acK es):=p.map _
theorem axG(hS:s.heap.get? a=some (aa3 es ep t)){es':Array (Int×Value)}{t':SetTable}:(s.heap.update a (Obj.putSet es' t')).get? a=some (aa3 es' (ep+1) t'):=
 cV (Obj.putSet es' t') hS rfl
theorem aBY{Q:Bool->Shared->Prop}(hS:s.heap.get? a=some (aa3 es ep t))(X:SetE prog w es t)(room:es.size+1<scanBound)
  (k:∀h' es' ep' t' b,Heap.SameBut a s.heap h'->h'.get? a=some (aa3 es' ep' t')->SetE prog w es' t'->(∀x,x∈acK es'↔x∈acK es∨x=z)->es'.size<=es.size+1->Q b {s with heap:=h'}):
  wpAny (model prog w) A (setAddHashed a (.int z tk) ((intKind prog w).hash z)) Q E s:=by
 have key:(intKind prog w).is z (.int z tk)=true:=intKind_is _ _ _ _;unfold setAddHashed setAddHashedIn;refine eV (eP (eT hS rfl X.fit ?_));dsimp only;rw[byScan_of (knd:=intKind prog w) (x:=.int z tk) rfl X.sz X.el,if_pos rfl];unfold setAddByScan;refine eP (eP (wpAny_rule (eP (wpAny_setScan_of key hS rfl X.fit X.el ?_))));cases hr:List.findIdx? (λe=>(intKind prog w).is z e.2) es.toList with
 |some j=>
  dsimp only;obtain⟨hj,pj,_⟩:=List.findIdx?_eq_some_iff_getElem.mp hr;have hz:z∈acK es:=bD.mpr ⟨es.toList[j],List.getElem_mem hj,by obtain⟨t2,e2⟩:=aDY pj;rw[e2];rfl⟩;refine fF (fF ?_);exact k s.heap es ep t _ (Heap.SameBut.refl a s.heap) hS X (λx=>⟨.inl,λh=>h.elim id λe=>e▸hz⟩) (Nat.le_succ _)
 |none=>
  dsimp only;have hz:z∉acK es:=λhm=>by
   obtain⟨e,he,ez⟩:=bD.mp hm;obtain⟨t2,e2⟩:=aAP X.el he;have:=List.findIdx?_eq_none_iff.mp hr e he;rw[e2,ez,intKind_is] at this;cases this
  have hperm:=layNew_perm t es ((intKind prog w).hash z) (.int z tk);have hfits:=layNew_fits t es ((intKind prog w).hash z) (.int z tk);have htab:=aE8 X.tab es ((intKind prog w).hash z) (.int z tk);generalize layNew t es ((intKind prog w).hash z) (.int z tk)=L at hperm hfits htab ⊢;obtain⟨es1,t1,wd,gave⟩:=L;dsimp only at hperm hfits htab ⊢;rw[Array.toList_push] at hperm;have el1:ElemsOf (intKind prog w) es1.toList:=(X.el.push key rfl).perm hperm
  have zp:(acK es1).Perm (acK es++[z]):=by
   have:=hperm.map λe:Int×Value=>zOf e.2;rw[bB] at this;exact this
  have nd1:(acK es1).Nodup:=zp.nodup_iff.mpr (List.nodup_append.mpr ⟨X.nd,by simp,λx hx y hy e=>by
   rw[bJ] at hy;exact hz (hy▸e▸hx)⟩)
  have mem1:∀x,x∈acK es1↔x∈acK es∨x=z:=λx=>by rw[zp.mem_iff,bO,bJ]
  have sz1:es1.size=es.size+1:=by rw[←bS,hperm.length_eq,aY,bS];rfl
  have X1:∀pl:Bool,SetE prog w es1 {t1 with plain:=pl}:=λpl=>⟨el1,nd1,by rw[sz1];exact room,hfits,⟨htab.rise,htab.dum,htab.led⟩⟩;have tail:∀(t2:SetTable),SetE prog w es1 t2->∀(g:Bool->Sem Unit),(∀(b:Bool) (s₁:Shared) (Q':Unit->Shared->Prop),Q' () s₁->wpAny (model prog w) A (g b) Q' E s₁)->∀R:Option Bool->Shared->Prop,
    (∀h' es' ep' t' ,Heap.SameBut a s.heap h'->h'.get? a=some (aa3 es' ep' t')->SetE prog w es' t'->(∀x,x∈acK es'↔x∈acK es∨x=z)->es'.size<=es.size+1->R (some true) {s with heap:=h'})->
    wpAny (model prog w) A (do
     storeSet a es1 t2
     if (!wd&&t2.tooFull)=true then do
       g (relayAll t2 es1 (SetTable.grown es1.size)).2.2
       storeSet a (relayAll t2 es1 (SetTable.grown es1.size)).1 (relayAll t2 es1 (SetTable.grown es1.size)).2.1
       pure (some true)
      else pure (some true)) R E s:=λt2 X2 g hg R hR=>by
   refine eP (wpAny_storeSet_of hS rfl ?_ (fits_of_scanBound X2.sz));have e1:=axG hS (es':=es1) (t':=t2);have b1:=Heap.SameBut.update s.heap a (Obj.putSet es1 t2);split
   ·have hp:=relayAll_perm t2 es1 (SetTable.grown es1.size);have hf:=relayAll_fits t2 es1 (SetTable.grown es1.size);have ht:=ay1 X2.tab es1 (SetTable.grown es1.size);generalize relayAll t2 es1 (SetTable.grown es1.size)=R2 at hp hf ht ⊢;obtain⟨es2,t3,gave2⟩:=R2;dsimp only at hp hf ht ⊢;have sz2:es2.size=es1.size:=by rw[←bS,hp.length_eq,bS]
    have X3:SetE prog w es2 t3:=⟨X2.el.perm hp,(ayA hp).nodup_iff.mpr X2.nd,by rw[sz2];exact X2.sz,hf,ht⟩;refine eP (hg _ _ _ (eP (wpAny_storeSet_of e1 rfl ?_ (fits_of_scanBound X3.sz))));exact fF (hR _ es2 _ t3 (b1.trans (Heap.SameBut.update _ a _)) (axG (s:={s with heap:=s.heap.update a (Obj.putSet es1 t2)}) e1) X3 (λx=>by rw[(ayA hp).mem_iff];exact mem1 x) (by rw[sz2,sz1];exact aQ _))
   ·exact fF (hR _ es1 _ t2 b1 e1 X2 mem1 (Nat.le_of_eq sz1))
  have fin:∀h' es' ep' t' ,Heap.SameBut a s.heap h'->h'.get? a=some (aa3 es' ep' t')->SetE prog w es' t'->(∀x,x∈acK es'↔x∈acK es∨x=z)->es'.size<=es.size+1->Q true {s with heap:=h'}:=λh' es' ep' t'=>k h' es' ep' t' true;have gw:∀(b:Bool) (s₁:Shared) (Q':Unit->Shared->Prop),Q' () s₁->wpAny (model prog w) A (match b with | true=>rule "set.scan.the-table-gave-way" | false=>pure ()) Q' E s₁:=λb s₁ Q' hq=>by
   cases b
   ·exact fF hq
   ·exact wpAny_rule hq
  refine eP (gw gave _ _ ?_);have X1':SetE prog w es1 t1:=X1 t1.plain;split
  ·refine eP ?_;rw[hashByValue_scannable 8 (show (Value.int z tk).scannable=true from rfl)];refine fF ?_;exact tail t1 X1' _ gw _ λh' es' ep' t' b e x m l=>fF (fin h' es' ep' t' b e x m l)
  ·refine eP (fF ?_);exact tail t1 X1' _ gw _ λh' es' ep' t' b e x m l=>fF (fin h' es' ep' t' b e x m l)
end
section
variable{prog:Program}{w:World}{A:Around}{R:Result->Shared->Prop}{I:Addr}{fp wr:List Addr}{G:Array GenState->Array GenState->Prop}{n:Nat}{P:Nat->Value->Prop}{St:Nat->Shared->Prop}
theorem asJ{args:Args}{s:Shared}(h:wpAny (model prog w) A.in1 (Builtin.«set.update.loop» args) (λx s'=>match x with | .done q=>R (.ok q) s' | .again c=>c.quiet=true/\codeAny (model prog w) A c R s') (λx s'=>R (.error x) s') s):codeAny (model prog w) A (.builtin "set.update.loop" args) R s:=
 codeAny_builtin F.entry_set_update_loop (by rw[Around.under_plainId F.plain_set_update_loop args];exact h)
theorem az2(W:WalksS prog w A.in1 I fp wr G n P St){S:Addr}(out:S∉fp){val:Nat->Int}(hval:∀i v,P i v->∃t,v=.int (val i) t)(hb:n+1<scanBound):
  ∀(k i:Nat) (s:Shared) (es:Array (Int×Value)) (ep:Nat) (t:SetTable),n-i=k->i<=n->St i s->s.heap.get? S=some (aa3 es ep t)->SetE prog w es t->(∀x,x∈acK es↔∃j,j<i/\val j=x)->es.size<=i->
   (∀s' es' ep' t',Moved (S::wr) G s s'->s'.heap.get? S=some (aa3 es' ep' t')->SetE prog w es' t'->(∀x,x∈acK es'↔∃j,j<n/\val j=x)->R (.ok (.ret .none)) s')->
   codeAny (model prog w) A (.builtin "set.update.loop" {pos:=[.ref S,.ref I]}) R s:=by
 have nw:S∉wr:=λz=>out (W.sub _ z);have sub:∀b∈wr,b∈S::wr:=λb hb=>bF _ hb;intro k;induction k with
 |zero=>
  intro i s es ep t hk hi st hS X hm hz hR;obtain rfl:i=n:=⋯;refine asJ ?_;unfold Builtin.«set.update.loop»;refine eP (W.done s _ _ st λs' mv=>?_);exact fF (hR s' es ep t (mv.mono sub) (mv.heap S _ nw hS) X hm)
 |succ k ih=>
  intro i s es ep t hk hi st hS X hm hz hR;have lt:i<n:=⋯;refine asJ ?_;unfold Builtin.«set.update.loop»;refine eP (W.item i s _ _ lt st λv s1 hP st1 mv=>?_);obtain⟨tk,rfl⟩:=hval i v hP;have S1:=mv.heap S _ nw hS;unfold setAdd;refine eP (eV (eV (eP ((intKind prog w).pyHash (k:=val i) (intKind_is _ _ _ _) (aBY (s:={s1 with toks:=s1.toks+1}) S1 X ⋯ λh' es' ep' t' b sb S2 X2 m2 z2=>?_)))));refine fF ⟨plainId_quiet F.plain_set_update_loop _,ih (i+1) _ es' ep' t' ⋯ lt (W.frame _ s1 _ _ st1 (Nat.le_succ _) λc hc o e=>?_) S2 X2 (λx=>?_) ⋯ λs2 es2 ep2 t2 mv2 S3 X3 m3=>?_⟩
  ·rw[sb.2 c λz=>out (z▸hc)];exact e
  ·rw[m2,hm];constructor
   ·rintro (⟨j,hj,e⟩ | rfl)
    ·exact⟨j,⋯,e⟩
    ·exact⟨i,⋯,rfl⟩
   ·rintro⟨j,hj,e⟩;by_cases c:j=i
    ·subst c;exact .inr e.symm
    ·exact .inl ⟨j,⋯,e⟩
  ·refine hR s2 es2 ep2 t2 (Moved.trans W.gtrans ((mv.mono sub).then_heap (Nat.le_succ _) λc o hc e=>?_) mv2) S3 X3 m3;rw[sb.2 c λz=>hc (z▸bE)];exact e
end
section
variable{prog:Program}{w:World}{A:Around}{E:Value->Shared->Prop}{s:Shared}
noncomputable abbrev aq4(w:World):Obj:=aa3 #[] 0 (.fresh 0 0 (asS w))
theorem aSD:SetE prog w #[] (.fresh 0 0 (asS w)):=⟨λ_ h=>by simp at h,by simp[acK],by decide,rfl,⟨by unfold Rise;simp[SetTable.fresh],rfl,rfl⟩⟩
theorem aCH(a:Value){Q₁:Value->Shared->Prop}(h:Q₁ (.ref s.heap.objs.size) {s with heap:=s.heap.push (aq4 w)}):codeAny (model prog w) A (.call (.builtin "set.__new__") ⟨[.type "set",a],[]⟩) (wants Q₁ E) s:=by
 have own:=sub_set_self;refine codeAny_of_tree (eP (m:=checkBuiltinCall "set.__new__" {pos:=[.type "set",a]}) (wpAny_of_eq (F.newCall_set_1 a) (fF ⟨plainId_quiet F.plain_set_new _,codeAny_builtin F.entry_set_new ?_⟩)));rw[Around.under_plainId F.plain_set_new {pos:=[.type "set",a]}];simp only[Builtin.«set.__new__»,Builtin.Frozenset.newClass];obtain⟨h0,g0,d0,t0,o0⟩:=s
 wp_walk
 refine wpAny_askSetting (fF ?_);dsimp only;simp only[newObj];exact eP (wpAny_alloc (fF (fF h)))
set_option maxHeartbeats 3200000 in
theorem azA{l:Addr}{items:Array Value}{ns:List Int}{Q:Value->Shared->Prop}(hh:A.handled=none)(hl:s.heap.IsList l items)(hi:IntsAre items.toList ns)(hb:items.size+1<scanBound)
  (k:∀(h':Heap) (tk:Nat) (es:Array (Int×Value)) (ep:Nat) (t:SetTable),h'.get? s.heap.objs.size=some (aa3 es ep t)->SetE prog w es t->(∀x,x∈acK es↔x∈ns)->(∀b o,s.heap.get? b=some o->h'.get? b=some o)->Q (.ref s.heap.objs.size) {s with heap:=h',toks:=tk}):
  wpAny (model prog w) A (call (.type "set") [.ref l]) Q E s:=by
 obtain⟨⟨c0,tl0,m0⟩,m1,m2,m3,m4,m5⟩:=And.intro F.called_set.mro (And.intro F.called_set.made (And.intro F.called_set.sub (And.intro F.called_set.notType (And.intro F.called_set.canCreate (F.typeCall_set_1 (.ref l))))));refine wpAny_call (codeAny_of_tree (show wpAny _ _ (callAny (.type "set") _) _ _ _ from fF ⟨Code.quiet_builtin _ (by decide +kernel),codeAny_builtin F.entry_type_call ?_⟩));rw[Around.under_plain (weight_type_call_type "set" [.ref l] []) (by rfl)]
 repeat any_goals (first | assumption | wp_step)
 refine eX (aCH (.ref l) (E:=E) (Q₁:=λobj s₁=>obj=.ref s.heap.objs.size/\s₁={s with heap:=s.heap.push (aq4 w)}) ⟨rfl,rfl⟩) λr s₁ hr=>?_;cases r with
 |error e=>exact hr
 |ok fl=>
  cases fl with
  |ret obj=>
   obtain⟨rfl,rfl⟩:=hr;have hS:(s.heap.push (aq4 w)).get? s.heap.objs.size=some (aq4 w):=a9 _ rfl;have hT:Shared.TypeIs {s with heap:=s.heap.push (aq4 w)} (.ref s.heap.objs.size) "set":=⟨_,hS,rfl⟩;obtain⟨i1,i2⟩:=And.intro F.called_set.init.lookup (F.called_set.init.bind (.ref s.heap.objs.size))
   repeat any_goals (first | assumption | wp_step)
   refine eX (codeAny_call_builtin (R:=wants (λr s₂=>r=.none/\∃h' tk es ep t,s₂={s with heap:=h',toks:=tk}/\h'.get? s.heap.objs.size=some (aa3 es ep t)/\SetE prog w es t/\(∀x,x∈acK es↔x∈ns)/\(∀b o,s.heap.get? b=some o->h'.get? b=some o)) E) F.called_set.init.plain F.entry_set_init (check_set_init_1 hT ?_)) λr₂ s₂ hr₂=>?_
   ·obtain⟨⟨oc,od,odt,osl⟩,hol,hcl,nl,hdl⟩:=hl;cases hcl;cases hdl;have hol':=aU (aq4 w) hol;have s1:=F.sub_list_set;have s2:=F.sub_list_frozenset;have ne:(Value.type "list"==Value.type "dict")=false:=by decide
    have hl1:(s.heap.push (aq4 w)).IsList l items:=⟨_,hol',rfl,nl,rfl⟩;simp only[Builtin.«set.__init__»,noKeywords,Builtin.Frozenset.updateFrom];generalize hPI:pyIter=PI
    wp_walk
    subst hPI;refine wpAny_pyIter_list hl1 (eP (wpAny_runValue ?_));have ll:l<s.heap.objs.size:=aV hol;have h3:A.in1.in1.in1.handled=none:=by simp[hh]
    have nI:l≠(s.heap.push (aq4 w)).objs.size:=by rw[c9];exact aW (dA ll)
    have out:s.heap.objs.size∉[(s.heap.push (aq4 w)).objs.size,l]:=by
     rw[c9];simp only[aX,cF,or_false,not_or];exact⟨aW (dD _),Nat.ne_of_gt ll⟩
    have val:∀(i:Nat) (v:Value),items[i]? =some v->∃t,v=.int ((λi=>ns.getD i 0) i) t:=λi v hv=>IntsAre.int_at hi i v (by rw[cI];exact hv);have ln:items.size=ns.length:=by rw[←bS];exact IntsAre.length hi
    refine az2 ((Walks.list h3 _ l nI items).toS) out val hb (items.size-0) 0 _ #[] 0 (.fresh 0 0 (asS w)) ⋯ (bM _) ⟨⟨_,a9 _ rfl,rfl,rfl⟩,hl1.push _⟩ (aU _ hS) aSD (λx=>⟨λz=>by simp[acK] at z,λ⟨j,hj,_⟩=>absurd hj (dB _)⟩) (aQ _) λs' es ep t mv S' X' m'=>?_;obtain⟨h',g',d',tk',os'⟩:=s';have eg:g'=s.gens:=mv.gens;have ed:d'=s.drawn:=mv.drawn;have eo:os'=s.os:=mv.os;subst eg;subst ed;subst eo;refine fF (fF ⟨rfl,h',tk',es,ep,t,rfl,S',X',λx=>?_,λb o e=>?_⟩)
    ·rw[m' x,ln];constructor
     ·rintro⟨j,hj,rfl⟩;have:ns.getD j 0=ns[j]:=by rw[eG,bW hj];rfl
      rw[this];exact List.getElem_mem hj
     ·intro hx;obtain⟨j,hj,e⟩:=List.mem_iff_getElem.mp hx;exact⟨j,hj,by rw[eG,bW hj];exact e⟩
    ·have lb:=aV e;refine mv.heap b o ?_ (aU _ (aU _ e));rw[c9];simp only[aX,cF,or_false,not_or];exact⟨aW lb,aW (dA lb)⟩
   ·cases r₂ with
    |error e=>exact hr₂
    |ok fl₂=>
     cases fl₂ with
     |ret r=>
      obtain⟨rfl,h',tk,es,ep,t,rfl,S',X',m',k'⟩:=hr₂
      repeat any_goals (first | assumption | wp_step)
      exact k h' tk es ep t S' X' m' k'
     |_=>exact hr₂.elim
  |_=>exact hr.elim
end
theorem ahE{α:Type}:∀(l:List α) (i:Nat) (h:i<l.length),(l[i]::l.eraseIdx i).Perm l
 |[],i,h=>by cases h
 |x::r,0,h=>List.Perm.refl _
 |x::r,i+1,h=>(List.Perm.swap x (r[i]'(by simpa using h)) _).trans (List.Perm.cons x (ahE r i (by simpa using h)))
theorem awT{α:Type}(next:Nat->Nat):∀(f k:Nat) (left:List α) (out:Array α),left.length=f->(pickOrder.go next f k left out).toList.Perm (out.toList++left)
 |0,k,left,out,h=>by
  rw[List.length_eq_zero_iff.mp h,cU];exact List.Perm.refl _
 |f+1,k,left,out,h=>by
  have hl:next k%left.length<left.length:=Nat.mod_lt _ ⋯;unfold pickOrder.go;rw[bW hl];dsimp only;refine (awT next f (k+1) (left.eraseIdx (next k%left.length)) (out.push left[next k%left.length]) (by rw[List.length_eraseIdx_of_lt hl,h];rfl)).trans ?_;rw[Array.toList_push,d8];exact List.Perm.append_left _ (ahE _ _ hl)
theorem az3{α:Type}(next:Nat->Nat)(xs:Array α):(pickOrder next xs).toList.Perm xs.toList:=by
 have:=awT next xs.size 0 xs.toList #[] (bS);rw[show (#[]:Array α).toList=[] from rfl,List.nil_append] at this;exact this
section
variable{M:Model}{A:Around}{E:Value->Shared->Prop}{s:Shared}
theorem arX{src:Source}{n:Nat}{Q:Nat->Shared->Prop}(hn:n≠0)(h:∀i d,i<n->Q i {s with drawn:=d}):wpAny M A (choose src n) Q E s:=λΓ p hΓ=>⟨hn,h _ _ (Nat.mod_lt _ (Nat.pos_of_ne_zero hn))⟩
theorem aoQ{α:Type}:∀(n:Nat) (xs:List α) (s:Shared) (Q:List α->Shared->Prop),xs.length=n->(∀ys d,ys.Perm xs->Q ys {s with drawn:=d})->wpAny M A (drawOrder n xs) Q E s
 |0,xs,s,Q,hn,h=>by
  rw[List.length_eq_zero_iff.mp hn] at h ⊢;exact fF (h [] s.drawn (List.Perm.refl _))
 |n+1,[],s,Q,hn,h=>by cases hn
 |n+1,x::r,s,Q,hn,h=>by
  unfold drawOrder;refine eP (arX (by simp) λi d hi=>?_);rw[bW hi];refine eP (aoQ n _ _ _ (by rw[List.length_eraseIdx_of_lt hi,hn];rfl) λys d2 hp=>fF (h _ d2 ?_));exact (List.Perm.cons _ hp).trans (ahE _ _ hi)
end
theorem al5:entryFor table "set.__iter__"=some Builtin.«frozenset.__iter__»:=entryFor_alias (id':="frozenset.__iter__") (by decide +kernel) (by decide +kernel) (by decide +kernel) (by kernel_rfl)
theorem slot_set_itn:Slot "set_iterator" "__next__" "set_iterator.__next__":=
 .of (owner:="set_iterator") (n:="__next__") (by rw[typeLookup_type,builtinLookup_eq_fast];kernel_rfl) (by decide +kernel) (by decide +kernel) (by decide +kernel)
  (by first | exact .inl (by decide +kernel) | exact .inr (by decide +kernel)) (by rw[isSubtype_type];kernel_rfl)
theorem agW:entryFor table "set_iterator.__next__"=some Builtin.«set_iterator.__next__»:=entryFor_of_tree (by kernel_rfl)
theorem ahY(a:Value):argsOk "set_iterator.__next__" ⟨[a],[]⟩:=by unfold argsOk;kernel_rfl
noncomputable abbrev sit(first:Value)(i:Nat)(a:Addr)(n ep:Nat):Obj:={cls:=.type "set_iterator",dict:=none,data:=.fields #[first,rawInt i,.ref a,rawInt n,rawInt ep],slots:= #[]}
section
variable{prog:Program}{w:World}{A:Around}{E:Value->Shared->Prop}{s:Shared}{a I:Addr}{es:Array (Int×Value)}{ep:Nat}{t:SetTable}
noncomputable def aeL(w:World)(a:Addr)(es:Array (Int×Value))(ep:Nat):List Value:=if w.params.followText "set-order" then (pickOrder (w.params.setOrder a ep) es).toList.map (·.2) else es.toList.map (·.2)
noncomputable def abJ(w:World)(t:SetTable)(i:Nat):Nat:=if w.params.followText "set-order" then 0 else match i with
 |0=>0
 |i+1=>t.place.getD i 0+1
theorem aDU:abJ w t 0=0:=by unfold abJ;split<;>rfl
theorem aB8{i:Nat}(bt:w.params.followText "set-order"=false):abJ w t (i+1)=t.place.getD i 0+1:=by unfold abJ;rw[bt,if_neg (by simp)]
theorem ord_perm:(aeL w a es ep).Perm (es.toList.map (·.2)):=by
 unfold aeL;split
 ·exact (az3 _ _).map _
 ·exact List.Perm.refl _
theorem ap2:(aeL w a es ep).length=es.size:=by rw[ord_perm.length_eq,aR,bS]
theorem ag5{Q:Bool->Shared->Prop}(h:Q (w.params.followText "set-order") s):wpAny (model prog w) A setsByText Q E s:=by
 unfold setsByText;exact eP (wpAny_askSetting (fF h))
theorem aD2{Q:Option (Value×Nat)->Shared->Prop}{i:Nat}(hS:s.heap.get? a=some (aa3 es ep t))(X:SetE prog w es t)(nd:w.params.followText "set-order"=true∨(!t.plain&&decide (es.size>1))=false)(hi:i<=es.size)
  (h:Q ((aeL w a es ep)[i]?.map λv=>(v,abJ w t (i+1))) s):wpAny (model prog w) A (setNext a (abJ w t i) i ep) Q E s:=by
 unfold setNext;refine eP (eT hS rfl X.fit ?_);dsimp only;refine eP (ag5 ?_);cases bt:w.params.followText "set-order" with
 |true=>
  rw[if_pos rfl,if_neg (by simp)];refine eP ?_;unfold setWalk;refine eP (eT hS rfl X.fit ?_);dsimp only;refine eP (ag5 ?_);rw[bt,if_pos rfl];refine eP (wpAny_askSetting (fF (fF ?_)));have e:aeL w a es ep=(pickOrder (w.params.setOrder a ep) es).toList.map (·.2):=by unfold aeL;rw[bt,if_pos rfl]
  rw[e,bC,cI,Option.map_map] at h;have e2:abJ w t (i+1)=abJ w t i:=by unfold abJ;rw[bt,if_pos rfl,if_pos rfl]
  rw[e2] at h;exact h
 |false=>
  have nd':(!t.plain&&decide (es.size>1))=false:=nd.resolve_left (by rw[bt];simp);have led:t.led=true:=by rw[X.tab.led];unfold asS;rw[bt];rfl
  have fit:t.place.size=es.size:=by
   have:=X.fit;simp only[SetTable.fits,bH,beq_iff_eq] at this;exact this.1
  rw[if_neg (by simp)];change wpAny _ _ (if (!t.plain&&decide (es.size>1))=true then _ else _) _ _ _;rw[if_neg (by rw[nd'];simp)];refine eP ?_;change wpAny _ _ (if (!t.led&& !es.isEmpty)=true then _ else _) _ _ _;rw[if_neg (by rw[led];simp)];refine fF (fF ?_);have e:aeL w a es ep=es.toList.map (·.2):=by unfold aeL;rw[bt,if_neg (by simp)]
  have cut:SetTable.below t.place (abJ w t i)=i:=by
   obtain⟨c1,c2,c3⟩:=ajV X.tab.rise (abJ w t i);have at':∀k,k<t.place.size->t.place[k]? =some (t.place.getD k 0):=λk hk=>by rw[Array.getD_eq_getD_getElem?,cX hk];rfl
   cases i with
   |zero=>
    rcases Nat.eq_zero_or_pos (SetTable.below t.place (abJ w t 0)) with z | z
    ·exact z
    ·have:=c2 0 _ z (at' 0 ⋯);rw[aDU] at this;exact absurd this (dB _)
   |succ i=>
    have e0:abJ w t (i+1)=t.place.getD i 0+1:=aB8 bt;have hi':i<t.place.size:=⋯;have l1:¬SetTable.below t.place (abJ w t (i+1))<=i:=λz=>by
     have:=c3 i _ z (at' i hi');omega
    have l2:¬i+1<SetTable.below t.place (abJ w t (i+1)):=λz=>by
     have h1:i+1<t.place.size:=⋯;have:=c2 (i+1) _ z (at' (i+1) h1);have:=X.tab.rise.lt (at' i hi') (at' (i+1) h1) (dD i);omega
    omega
  rw[cut];rw[e,bC,cI,Option.map_map] at h;by_cases c:i<es.size
  ·rw[cX c,cX (show i<t.place.size by omega)];rw[cX c] at h;have e2:abJ w t (i+1)=t.place[i]'⋯+1:=by
    rw[aB8 bt,Array.getD_eq_getD_getElem?,cX (show i<t.place.size by omega)];rfl
   rw[e2] at h;exact h
  ·rw[eJ ⋯,eJ ⋯];rw[eJ ⋯] at h;exact h
noncomputable abbrev aVE:Obj:={cls:=.type "tuple",data:=.seq #[]}
noncomputable abbrev aUC(a:Addr):Obj:={cls:=.type "StopIteration",data:=.fields (#[Value.ref a,.none,.none,.none,.bool false,.none]++ownMembersOf (.type "StopIteration") [])}
theorem ao2{β:Type}{Q:β->Shared->Prop}(hh:A.handled=none)(h:E (.ref (s.heap.push aVE).objs.size) {s with heap:=(s.heap.push aVE).push (aUC s.heap.objs.size)}):
  wpAny (model prog w) A (do raiseNew (←newExc (.type "StopIteration") []):Sem β) Q E s:=by
 refine eP ?_;simp only[newExc,newTuple];refine eP (eO (eP (m:=firstArgMember _ _) (wpAny_of_eq (a:=Value.none) (by simp only[firstArgMember];rfl) (eO ?_ (by size_fits)))) (by size_fits));unfold raiseNew;refine eP (wpAny_handled ?_);rw[hh];exact eP (fF (wpAny_throw h))
theorem adA{f:Value}{i n ep:Nat}(h:s.heap.get? I=some (sit f i a n ep)):s.TypeIs (.ref I) "set_iterator":=⟨_,h,rfl⟩
theorem auD{i:Nat}{Q:Option Value->Shared->Prop}(hh:A.handled=none)(ne:a≠I)(hI:s.heap.get? I=some (sit (rawInt (abJ w t i)) i a es.size ep))(hS:s.heap.get? a=some (aa3 es ep t))(X:SetE prog w es t)
  (nd:w.params.followText "set-order"=true∨(!t.plain&&decide (es.size>1))=false) (hi:i<=es.size)
  (k:∀v h',(aeL w a es ep)[i]? =some v->h'.get? I=some (sit (rawInt (abJ w t (i+1))) (i+1) a es.size ep)->(∀b o,b≠I->s.heap.get? b=some o->h'.get? b=some o)->Q (some v) {s with heap:=h'})
  (k0:(aeL w a es ep)[i]? =none->∀h',(∀b o,b≠I->s.heap.get? b=some o->h'.get? b=some o)->Q none {s with heap:=h'}):wpAny (model prog w) A (pyNext (.ref I)) Q E s:=by
 unfold pyNext;refine eP (wpAny_attempt (wpAny_callSpecial?_slot (name:=Str.ofString "__next__") (adA hI) slot_set_itn (wpAny_call_entry slot_set_itn (adA hI) agW ?_ (ahY _))));unfold Builtin.«set_iterator.__next__»;refine eP (m:=slotArgs _ _ _) (fF ?_);refine eP (wpAny_fieldsOf hI rfl ?_);simp only[rawInt];unfold setEntries;refine eP (eP (eT hS rfl X.fit (fF ?_)));rw[if_neg (by simp)];simp only[bP]
 refine eP (aD2 hS X nd hi ?_);cases ho:(aeL w a es ep)[i]? with
 |some v=>
  dsimp only[Option.map];refine eP (wpAny_setField hI rfl (show 0<5 by decide) ?_);have h1:=cV (Obj.mapFields (·.setIfInBounds 0 (Value.int (abJ w t (i+1)) 0))) hI rfl;refine eP (wpAny_setField h1 rfl (show 1<5 by decide) ?_);have h2:=cV (Obj.mapFields (·.setIfInBounds 1 (Value.int ((i:Int)+1) 0))) h1 rfl;refine fF ⟨v,rfl,fF (k v _ ho ?_ λb o nb e=>?_)⟩
  ·rw[h2];show some _=some _;congr 1
  ·rw[cE _ _ (Ne.symm nb),cE _ _ (Ne.symm nb)];exact e
 |none=>
  dsimp only[Option.map];refine eP (wpAny_setField hI rfl (show 2<5 by decide) (ao2 hh ?_));refine eP (wpAny_isInstance (T:="StopIteration") (b:=true) ⟨_,a9 _ rfl,rfl⟩ isSubtype_stop (fF (k0 ho _ λb o nb e=>?_)));refine aU _ (aU _ ?_);rw[cE _ _ (Ne.symm nb)];exact e
theorem aoW{i:Nat}{T:Addr}{ys:List Nat}{Q:Option Value->Shared->Prop}(hh:A.handled=none)(hI:s.heap.get? I=some (sit (.ref T) i a es.size ep))(hT:s.heap.get? T=some {cls:=.type "tuple",data:=.seq (ys.map λ(y:Nat)=>rawInt y).toArray})(hS:s.heap.get? a=some (aa3 es ep t))(X:SetE prog w es t)
  (hy:∀y∈ys,y<es.size)
  (k:∀y v h',ys[i]? =some y->(es.toList.map (·.2))[y]? =some v->h'.get? I=some (sit (.ref T) (i+1) a es.size ep)->(∀b o,b≠I->s.heap.get? b=some o->h'.get? b=some o)->Q (some v) {s with heap:=h'})
  (k0:ys[i]? =none->∀h',(∀b o,b≠I->s.heap.get? b=some o->h'.get? b=some o)->Q none {s with heap:=h'}):wpAny (model prog w) A (pyNext (.ref I)) Q E s:=by
 unfold pyNext;refine eP (wpAny_attempt (wpAny_callSpecial?_slot (name:=Str.ofString "__next__") (adA hI) slot_set_itn (wpAny_call_entry slot_set_itn (adA hI) agW ?_ (ahY _))));unfold Builtin.«set_iterator.__next__»;refine eP (m:=slotArgs _ _ _) (fF (eP (wpAny_fieldsOf hI rfl ?_)));simp only[rawInt];unfold setEntries;refine eP (eP (eT hS rfl X.fit (fF ?_)));rw[if_neg (by simp)];refine eP (wpAny_seqItems hT rfl ?_)
 have eg:((ys.map λ(y:Nat)=>rawInt y).toArray)[(i:Int).toNat]? =(ys[i]?).map λ(y:Nat)=>rawInt y:=by
  rw[bP,List.getElem?_toArray,bC]
 dsimp only;rw[eg];cases ho:ys[i]? with
 |some y=>
  have hlt:=hy y (bU ho);have ev:(es.toList.map (·.2))[y]? =some es[y].2:=by rw[bC,cI,cX hlt];rfl
  dsimp only[Option.map,rawInt];unfold setNextDrawn;refine eP (eP (eT hS rfl X.fit ?_));dsimp only;rw[if_neg (by simp)];simp only[bP];rw[cX hlt];refine fF (eP (wpAny_setField hI rfl (show 1<5 by decide) ?_));have h2:=cV (Obj.mapFields (·.setIfInBounds 1 (Value.int ((i:Int)+1) 0))) hI rfl;refine fF ⟨es[y].2,rfl,fF (k y _ _ ho ev ?_ λb o nb e=>?_)⟩
  ·rw[h2];show some _=some _;congr 1
  ·rw[cE _ _ (Ne.symm nb)];exact e
 |none=>
  dsimp only[Option.map];refine eP (wpAny_setField hI rfl (show 0<5 by decide) ?_);have h1:=cV (Obj.mapFields (·.setIfInBounds 0 (Value.int 0 0))) hI rfl;refine eP (wpAny_setField h1 rfl (show 2<5 by decide) (ao2 hh ?_));refine eP (wpAny_isInstance (T:="StopIteration") (b:=true) ⟨_,a9 _ rfl,rfl⟩ isSubtype_stop (fF (k0 ho _ λb o nb e=>?_)));refine aU _ (aU _ ?_);rw[cE _ _ (Ne.symm nb),cE _ _ (Ne.symm nb)]
  exact e
theorem ahG:Slot "set_iterator" "__iter__" "set_iterator.__iter__":=
 .of (owner:="set_iterator") (n:="__iter__") (by rw[typeLookup_type,builtinLookup_eq_fast];kernel_rfl) (by decide +kernel) (by decide +kernel) (by decide +kernel)
  (by first | exact .inl (by decide +kernel) | exact .inr (by decide +kernel)) (by rw[isSubtype_type];kernel_rfl)
theorem anR:entryFor table "set_iterator.__iter__"=some Builtin.«dict_keyiterator.__iter__»:=entryFor_alias (id':="dict_keyiterator.__iter__") (by decide +kernel) (by decide +kernel) (by decide +kernel) (by kernel_rfl)
theorem ap3(a:Value):argsOk "set_iterator.__iter__" ⟨[a],[]⟩:=by unfold argsOk;kernel_rfl
theorem auA{f:Value}{i n:Nat}{Q:Value->Shared->Prop}(hI:s.heap.get? I=some (sit f i a n ep))(h:Q (.ref I) s):wpAny (model prog w) A (pyIter (.ref I)) Q E s:=by
 refine wpAny_pyIter_slot (adA hI) ahG (wpAny_call_entry ahG (adA hI) anR ?_ (ap3 _));unfold Builtin.«dict_keyiterator.__iter__»;exact eP (m:=slotArgs _ _ _) (fF (fF ⟨(),"set_iterator",_,adA hI,slot_set_itn.lookup,h⟩))
theorem aAF(hh:A.handled=none)(ne:a≠I)(X:SetE prog w es t)(nd:w.params.followText "set-order"=true∨(!t.plain&&decide (es.size>1))=false):
  Walks prog w A I [I,a] [I] es.size (λi v=>(aeL w a es ep)[i]? =some v) (λi h=>i<=es.size/\h.get? I=some (sit (rawInt (abJ w t i)) i a es.size ep)/\h.get? a=some (aa3 es ep t)) where
 sub:=λb hb=>by simp at hb;simp[hb]
 frame:=λi h h' st k=>⟨st.1,k I (by simp) _ st.2.1,k a (by simp) _ st.2.2⟩
 item:=λi s Q E hi st k=>auD hh ne st.2.1 st.2.2 X nd st.1 (λv h' ho hI' kp=>k v h' s.toks ho ⟨hi,hI',kp a _ ne st.2.2⟩ λb o nb e=>kp b o (λz=>nb (by simp[z])) e) λho=>by
  have:=List.getElem?_eq_none_iff.mp ho;have hl:=ap2 (w:=w) (a:=a) (es:=es) (ep:=ep);omega
 done:=λs Q E st k=>auD hh ne st.2.1 st.2.2 X nd st.1 (λv h' ho=>by
  obtain⟨z,_⟩:=cC.mp ho;have hl:=ap2 (w:=w) (a:=a) (es:=es) (ep:=ep);omega) λ_ h' kp=>k h' s.toks λb o nb e=>kp b o (λz=>nb (by simp[z])) e
 self:=λi s Q E st k=>auA st.2.1 k
theorem awK{T:Addr}{ys:List Nat}(hh:A.handled=none)(ne:a≠I)(nT:T≠I)(X:SetE prog w es t)(hp:ys.Perm (List.range es.size)):
  Walks prog w A I [I,a,T] [I] es.size (λi v=>∃y,ys[i]? =some y/\(es.toList.map (·.2))[y]? =some v) (λi h=>h.get? I=some (sit (.ref T) i a es.size ep)/\h.get? a=some (aa3 es ep t)/\h.get? T=some {cls:=.type "tuple",data:=.seq (ys.map λ(y:Nat)=>rawInt y).toArray}) where
 sub:=λb hb=>by simp at hb;simp[hb]
 frame:=λi h h' st k=>⟨k I (by simp) _ st.1,k a (by simp) _ st.2.1,k T (by simp) _ st.2.2⟩
 item:=λi s Q E hi st k=>aoW hh st.1 st.2.2 st.2.1 X (λy hy=>by simpa using hp.mem_iff.mp hy) (λy v h' h1 h2 hI' kp=>k v h' s.toks ⟨y,h1,h2⟩ ⟨hI',kp a _ ne st.2.1,kp T _ nT st.2.2⟩ λb o nb e=>kp b o (λz=>nb (by simp[z])) e) λho=>by
  have:=List.getElem?_eq_none_iff.mp ho;have hl:=hp.length_eq;rw[cJ] at hl;omega
 done:=λs Q E st k=>aoW hh st.1 st.2.2 st.2.1 X (λy hy=>by simpa using hp.mem_iff.mp hy) (λy v h' ho=>by
  obtain⟨z,_⟩:=cC.mp ho;have hl:=hp.length_eq;rw[cJ] at hl;omega) λ_ h' kp=>k h' s.toks λb o nb e=>kp b o (λz=>nb (by simp[z])) e
 self:=λi s Q E st k=>auA st.1 k
theorem aBX{Q:Value->Shared->Prop}(hS:s.heap.get? a=some (aa3 es ep t))(X:SetE prog w es t)
  (k:(w.params.followText "set-order"=true∨(!t.plain&&decide (es.size>1))=false)->Q (.ref s.heap.objs.size) {s with heap:=s.heap.push (sit (rawInt 0) 0 a es.size ep)})
  (kD:∀(ys:List Nat) (d:Drawn),ys.Perm (List.range es.size)->Q (.ref (s.heap.objs.size+1)) {s with heap:=(s.heap.push {cls:=.type "tuple",data:=.seq (ys.map λ(y:Nat)=>rawInt y).toArray}).push (sit (.ref s.heap.objs.size) 0 a es.size ep),drawn:=d}):
  wpAny (model prog w) A (pyIter (.ref a)) Q E s:=by
 have hT:s.TypeIs (.ref a) "set":=⟨_,hS,rfl⟩;refine wpAny_pyIter_slot hT F.slot_set_iter (wpAny_call_entry F.slot_set_iter hT al5 ?_ (F.args_set_iter_1 _));unfold Builtin.«frozenset.__iter__» Builtin.Frozenset.slot0;refine eP (eP (m:=slotArgs _ _ _) (fF (fF ?_)));unfold Builtin.Frozenset.sizeOf setEntries;refine eP (eP (eP (eT hS rfl X.fit (fF (fF ?_)))));unfold setDrawn;refine eP (eP (eT hS rfl X.fit ?_))
 refine eP (ag5 (fF ?_));have sl:=fits_of_scanBound X.sz;dsimp only;change wpAny _ _ (if (!w.params.followText "set-order"&&(!t.plain&&decide (es.size>1)))=true then _ else _) _ _ _;by_cases c:(!w.params.followText "set-order"&&(!t.plain&&decide (es.size>1)))=true
 ·rw[if_pos c];refine eP (aoQ es.size (List.range es.size) s _ cJ λys d hp=>?_);unfold newTuple;refine eP (eO ?_ (by show (ys.map λ(y:Nat)=>rawInt y).toArray.size<=_;rw[bI,aR,hp.length_eq,cJ];omega));refine eP (wpAny_setEpoch_of (aU _ hS) rfl X.fit ?_);unfold newFields;refine eP (eO (fF ⟨(),"set_iterator",_,⟨_,a9 _ rfl,rfl⟩,slot_set_itn.lookup,?_⟩));have:=kD ys d hp;rw[c9];exact this
 ·rw[if_neg c];refine eP (fF (eP (wpAny_setEpoch_of hS rfl X.fit ?_)));unfold newFields;refine eP (eO (fF ⟨(),"set_iterator",_,⟨_,a9 _ rfl,rfl⟩,slot_set_itn.lookup,k ?_⟩));cases q:w.params.followText "set-order" with
  |true=>exact .inl rfl
  |false=>
   refine .inr ?_;rw[q] at c;simpa using c
theorem as9{Q:Bool->Shared->Prop}(hT:s.TypeIs (.ref a) "set")(h:Q false s):wpAny (model prog w) A (Builtin.List.listLengthHint (.ref a)) Q E s:=by
 unfold Builtin.List.listLengthHint;refine eP (wpAny_specialOf hT F.slot_set_len.lookup ?_);generalize hid:("set.__len__":String)=id0
 wp_delta
 have parts:splitId id0=some ("set","__len__"):=by subst hid;decide +kernel
 rw[parts];subst hid;refine eP (wpAny_isInstance (T:="set") (b:=true) hT (by rw[isSubtype_type];kernel_rfl) ?_);refine wpAny_ite_split (λz=>absurd z (by decide)) (λ_=>wpAny_ite_split (λ_=>eP (wpAny_typeOf hT (fF h))) λz=>absurd (by decide +kernel) z)
theorem auM{xs:List Value}{acc:Array Value}{n:Nat}(hn:xs.length=n)(its:ItemsOf (λi v=>xs[i]? =some v) acc n):acc.toList=xs:=by
 refine List.ext_getElem? λi=>?_;rw[cI];by_cases c:i<acc.size
 ·have e:=cX c;rw[e,its.2 i _ e]
 ·rw[eJ ⋯,eE (by have:=its.1;omega)]
theorem av7{R:Result->Shared->Prop}{S:Addr}(hh:A.handled=none)(hS:s.heap.get? a=some (aa3 es ep t))(X:SetE prog w es t)(ne:S≠a)(hL:s.heap.get? S=some {cls:=.type "list",data:=.seq #[]})
  (k:∀(s':Shared) (acc:Array Value) (c:Nat),acc.toList.Perm (es.toList.map (·.2))->(∀b o,b≠S->s.heap.get? b=some o->s'.heap.get? b=some o)->s'.gens=s.gens->s'.os=s.os->s'.heap.get? S=some {cls:=.type "list",data:=.seq acc c}->R (.ok (.ret (.ref S))) s'):
  wpAny (model prog w) A.in1 (Builtin.List.listExtendWith (.ref S) (.ref a) (.ref S)) (λfin s'=>match fin with | .done f=>R (.ok f) s' | .again c'=>c'.quiet=true/\codeAny (model prog w) A c' R s') (λe s'=>R (.error e) s') s:=by
 have sl:=fits_of_scanBound X.sz;have la:a<s.heap.objs.size:=aV hS;have lS:S<s.heap.objs.size:=aV hL;have apart:Builtin.List.listSameRef (.ref S) (.ref a)=false:=by simp[Builtin.List.listSameRef,ne]
 unfold Builtin.List.listExtendWith;refine eP (wpAny_typeOf (T:="set") ⟨_,hS,rfl⟩ ?_);rw[if_neg (by rw[apart];decide)];refine eP (aBX hS X (λnd=>?_) λys d hp=>?_)
 ·have HS:(s.heap.push (sit (rawInt 0) 0 a es.size ep)).get? a=some (aa3 es ep t):=aU _ hS;have LS:(s.heap.push (sit (rawInt 0) 0 a es.size ep)).get? S=some {cls:=.type "list",data:=.seq #[]}:=aU _ hL;have W:=aAF (A:=A.in1) (ep:=ep) (I:=s.heap.objs.size) hh (aW la) X nd;have ST:0<=es.size/\(s.heap.push (sit (rawInt 0) 0 a es.size ep)).get? s.heap.objs.size=some (sit (rawInt (abJ w t 0)) 0 a es.size ep)/\(s.heap.push (sit (rawInt 0) 0 a es.size ep)).get? a=some (aa3 es ep t):=⟨bM _,by rw[aDU];exact a9 s.heap (o:=sit (rawInt 0) 0 a es.size ep) rfl,HS⟩
  refine eP (eV (as9 ⟨_,HS,rfl⟩ ?_));rw[if_pos (by decide)];refine eP (wpAny_rule (eP (show wpAny _ _ (updateSeq S (λl=>l.push Value.none) >>=λ_=>updateSeq S λl=>l.pop) _ _ _ from eP (wpAny_updateSeq LS rfl ?_))));have S1:=cV (Obj.mapSeq (·.push Value.none)) LS rfl;refine wpAny_updateSeq (hz:=by seq_fits) S1 rfl ?_;have S2:=cV (Obj.mapSeq (·.pop)) S1 rfl;have oth:∀b o,b≠S->(s.heap.push (sit (rawInt 0) 0 a es.size ep)).get? b=some o->(((s.heap.push (sit (rawInt 0) 0 a es.size ep)).update S (Obj.mapSeq (·.push Value.none))).update S (Obj.mapSeq (·.pop))).get? b=some o:=λb o nb e=>by
   rw[cE _ _ (Ne.symm nb),cE _ _ (Ne.symm nb)];exact e
  have out:S∉[s.heap.objs.size,a]:=by
   simp only[aX,cF,or_false,not_or];exact⟨aW lS,ne⟩
  refine fF ⟨plainId_quiet PySem.F.plain_extend_loop _,codeAny_extend_loopS W.toS sl S out _ es.size 0 _ #[] _ rfl (bM _) (W.frame 0 _ _ ST λb hb o e=>oth b o (λz=>out (z▸hb)) e) S2 (ItemsOf.nil _) λs' acc c mv S3 its=>?_⟩;exact k s' acc c (by rw[auM ap2 its];exact ord_perm) (λb ob nb e=>mv.heap b ob (by simp[nb,aW (aV e)]) (oth b ob nb (aU _ e))) mv.gens mv.os S3
 ·have nT:s.heap.objs.size≠s.heap.objs.size+1:=aW (dD _);have HS:((s.heap.push ({cls:=.type "tuple",data:=.seq (ys.map λ(y:Nat)=>rawInt y).toArray}:Obj)).push (sit (.ref s.heap.objs.size) 0 a es.size ep)).get? a=some (aa3 es ep t):=aU _ (aU _ hS);have LS:((s.heap.push ({cls:=.type "tuple",data:=.seq (ys.map λ(y:Nat)=>rawInt y).toArray}:Obj)).push (sit (.ref s.heap.objs.size) 0 a es.size ep)).get? S=some {cls:=.type "list",data:=.seq #[]}:=aU _ (aU _ hL)
  have W:=awK (A:=A.in1) (ep:=ep) (I:=s.heap.objs.size+1) (T:=s.heap.objs.size) hh (aW (dA la)) nT X hp;have eI:((s.heap.push ({cls:=.type "tuple",data:=.seq (ys.map λ(y:Nat)=>rawInt y).toArray}:Obj)).push (sit (.ref s.heap.objs.size) 0 a es.size ep)).get? (s.heap.objs.size+1)=some (sit (.ref s.heap.objs.size) 0 a es.size ep):=by
   have:=a9 (s.heap.push ({cls:=.type "tuple",data:=.seq (ys.map λ(y:Nat)=>rawInt y).toArray}:Obj)) (o:=sit (.ref s.heap.objs.size) 0 a es.size ep) rfl;rw[c9] at this;exact this
  have ST:((s.heap.push ({cls:=.type "tuple",data:=.seq (ys.map λ(y:Nat)=>rawInt y).toArray}:Obj)).push (sit (.ref s.heap.objs.size) 0 a es.size ep)).get? (s.heap.objs.size+1)=some (sit (.ref s.heap.objs.size) 0 a es.size ep)/\((s.heap.push ({cls:=.type "tuple",data:=.seq (ys.map λ(y:Nat)=>rawInt y).toArray}:Obj)).push (sit (.ref s.heap.objs.size) 0 a es.size ep)).get? a=some (aa3 es ep t)/\((s.heap.push ({cls:=.type "tuple",data:=.seq (ys.map λ(y:Nat)=>rawInt y).toArray}:Obj)).push (sit (.ref s.heap.objs.size) 0 a es.size ep)).get? s.heap.objs.size=some {cls:=.type "tuple",data:=.seq (ys.map λ(y:Nat)=>rawInt y).toArray}:=⟨eI,HS,aU _ (a9 _ rfl)⟩
  refine eP (eV (as9 ⟨_,HS,rfl⟩ ?_));rw[if_pos (by decide)];refine eP (wpAny_rule (eP (show wpAny _ _ (updateSeq S (λl=>l.push Value.none) >>=λ_=>updateSeq S λl=>l.pop) _ _ _ from eP (wpAny_updateSeq LS rfl ?_))));have S1:=cV (Obj.mapSeq (·.push Value.none)) LS rfl;refine wpAny_updateSeq (hz:=by seq_fits) S1 rfl ?_;have S2:=cV (Obj.mapSeq (·.pop)) S1 rfl;have oth:∀b o,b≠S->((s.heap.push ({cls:=.type "tuple",data:=.seq (ys.map λ(y:Nat)=>rawInt y).toArray}:Obj)).push (sit (.ref s.heap.objs.size) 0 a es.size ep)).get? b=some o->((((s.heap.push ({cls:=.type "tuple",data:=.seq (ys.map λ(y:Nat)=>rawInt y).toArray}:Obj)).push (sit (.ref s.heap.objs.size) 0 a es.size ep)).update S (Obj.mapSeq (·.push Value.none))).update S (Obj.mapSeq (·.pop))).get? b=some o:=λb o nb e=>by
   rw[cE _ _ (Ne.symm nb),cE _ _ (Ne.symm nb)];exact e
  have out:S∉[s.heap.objs.size+1,a,s.heap.objs.size]:=by
   simp only[aX,cF,or_false,not_or];exact⟨aW (dA lS),ne,aW lS⟩
  refine fF ⟨plainId_quiet PySem.F.plain_extend_loop _,codeAny_extend_loopS W.toS sl S out _ es.size 0 _ #[] _ rfl (bM _) (W.frame 0 _ _ ST λb hb o e=>oth b o (λz=>out (z▸hb)) e) S2 (ItemsOf.nil _) λs' acc c mv S3 its=>?_⟩;have el:acc.toList=ys.map λy=>((es.toList.map (·.2))[y]?).getD .none:=by
   refine auM (by rw[aR,hp.length_eq,cJ]) ⟨its.1,λi v hv=>?_⟩;obtain⟨y,h1,h2⟩:=its.2 i v hv;rw[bC,h1];show some (((es.toList.map (·.2))[y]?).getD .none)=_;rw[h2];rfl
  have er:(List.range es.size).map (λy=>((es.toList.map (·.2))[y]?).getD Value.none)=es.toList.map (·.2):=by
   refine List.ext_getElem? λi=>?_;rw[bC];by_cases c:i<es.size
   ·rw[List.getElem?_range c];show some (((es.toList.map (·.2))[i]?).getD .none)=(es.toList.map (·.2))[i]?;rw[bW (by rw[aR,bS];exact c)];rfl
   ·rw[eE (by rw[cJ];omega),eE (by rw[aR,bS];omega)];rfl
  refine k s' acc c (by rw[el];exact (hp.map _).trans (List.Perm.of_eq er)) (λb ob nb e=>mv.heap b ob ?_ (oth b ob nb (aU _ (aU _ e)))) mv.gens mv.os S3;simp only[aX,cF,or_false,not_or];exact⟨nb,aW (dA (aV e))⟩
theorem atG{Q:List Value->Shared->Prop}(hh:A.handled=none)(hS:s.heap.get? a=some (aa3 es ep t))(X:SetE prog w es t)
  (k:∀(s':Shared) (vs:List Value),vs.Perm (es.toList.map (·.2))->(∀b o,s.heap.get? b=some o->s'.heap.get? b=some o)->s.heap.objs.size<s'.heap.objs.size->s'.gens=s.gens->s'.os=s.os->Q vs s'):wpAny (model prog w) A (collect (.ref a)) Q E s:=by
 let nl:Obj:={cls:=.type "list",data:=.seq ([]:List Value).toArray}
 have S1:(s.heap.push nl).get? s.heap.objs.size=some nl:=a9 _ rfl;unfold collect;refine eP (wpAny_runValue (codeAny_builtin F.entry_proto_collect ?_));rw[Around.under_plainId F.plain_proto_collect _];refine eP (eO (fF ⟨plainId_quiet F.plain_list_iadd _,codeAny_builtin F.entry_list_iadd ?_⟩));rw[Around.under_plainId F.plain_list_iadd _];have key:=av7 (A:=A) (s:={s with heap:=s.heap.push nl}) (S:=s.heap.objs.size) (R:=λq s'=>∃acc c,q=.ok (.ret (.ref s.heap.objs.size))/\acc.toList.Perm (es.toList.map (·.2))/\(∀b o,s.heap.get? b=some o->s'.heap.get? b=some o)/\s'.gens=s.gens/\s'.os=s.os/\s'.heap.get? s.heap.objs.size=some {cls:=.type "list",data:=.seq acc c})
  hh (aU _ hS) X (Nat.ne_of_gt (aV hS)) S1 λs' acc c p kp g o e=>⟨acc,c,rfl,p,λb ob q=>kp b ob (aW (aV q)) (aU _ q),g,o,e⟩
 have fin:∀s' acc c,acc.toList.Perm (es.toList.map (·.2))->(∀b o,s.heap.get? b=some o->s'.heap.get? b=some o)->s'.gens=s.gens->s'.os=s.os->s'.heap.get? s.heap.objs.size=some {cls:=.type "list",data:=.seq acc c}->
   wpAny (model prog w) A (do let o ←load s.heap.objs.size;match o.data with | .seq xs _=>pure xs.toList | _=>unsupported "internal:collect") Q E s':=λs' acc c p kp g o e=>eP (wpAny_load e (fF (k s' acc.toList p kp (aV e) g o)))
 refine eQ key (λf s' x=>?_) λe s' x=>?_
 ·cases f with
  |done f=>
   obtain⟨acc,c,e,p,kp,g,o,q⟩:=x;cases e;exact fin s' acc c p kp g o q
  |again c1=>
   refine⟨x.1,eX x.2 λr s2 y=>?_⟩;obtain⟨acc,c,rfl,p,kp,g,o,q⟩:=y;exact fin s2 acc c p kp g o q
 ·obtain⟨_,_,e',_⟩:=x;cases e'
theorem avT{Q:Value->Shared->Prop}(hh:A.handled=none)(hS:s.heap.get? a=some (aa3 es ep t))(X:SetE prog w es t)(h64:es.size<64)
  (k:∀(s':Shared) (D:Addr) (vs:List Value) (ns:List Int) (c:Nat),s.heap.objs.size<=D->s'.heap.get? D=some {cls:=.type "list",data:=.seq vs.toArray c}->IntsAre vs ns->ns.Pairwise (·<·)->(∀x,x∈ns↔x∈acK es)->(∀b o,s.heap.get? b=some o->s'.heap.get? b=some o)->s'.gens=s.gens->s'.os=s.os->Q (.ref D) s'):
  wpAny (model prog w) A (call (.builtin "sorted") [.ref a]) Q E s:=by
 refine Calls.call_function_entry kind_sorted plain_sorted entry_sorted (args_sorted1 _) ?_;unfold Builtin.«sorted»;refine eP (m:=checkCount "sorted" 1 1 _) (fF (eP (atG (A:=A.in1) hh hS X λs1 vs hp k1 sz1 g1 o1=>?_)));have hl:vs.length=es.size:=by rw[hp.length_eq,aR,bS]
 refine eP (wpAny_newList ?_ (by rw[hl,eU];omega));have hin:IntsAre vs (vs.map zOf):=by
  have all:∀v∈vs,∃t,v=.int (zOf v) t:=λv hv=>by
   obtain⟨e,he,rfl⟩:=bD.mp (hp.mem_iff.mp hv);exact aAP X.el he
  clear hp hl;induction vs with
  |nil=>exact .nil
  |cons v r ih=>
   obtain⟨t,e⟩:=all v (by simp);rw[bG];rw[e];exact .cons _ _ (ih λu hu=>all u (bF _ hu))
 have zp:(vs.map zOf).Perm (acK es):=by
  have:=hp.map zOf;rw[bY] at this;exact this
 have hoL:(s1.heap.push (seqObj "list" vs.toArray 0)).get? s1.heap.objs.size=some (seqObj "list" vs.toArray 0):=a9 _ rfl;refine eP (eV (wpAny_call_entry slot_list_sort ⟨_,hoL,rfl⟩ entry_list_sort (list_sort_tree hoL hin ⋯ λout ns' a1 a2 a3=>⟨(),?_⟩) (args_list_sort _)));obtain⟨e,he⟩:=sortedHeap_at (out:=out) hoL;refine fF ⟨(),k _ s1.heap.objs.size out.toList ns' e (Nat.le_of_lt sz1) (by rw[Array.toArray_toList];exact he) a1 ?_ (λx=>by rw[a2.mem_iff,zp.mem_iff]) (λb ob q=>?_) g1 o1⟩
 ·have nd:ns'.Nodup:=a2.nodup_iff.mpr (zp.nodup_iff.mpr X.nd);exact (List.pairwise_and_iff.mpr ⟨a3,nd⟩).imp λ⟨h1,h2⟩=>by omega
 ·have q1:=k1 b ob q;have lb:=aV q1;rw[sortedHeap_old (aW lb) (by rw[size_push'];exact dA lb)];exact aU _ q1
end
noncomputable def stO(P:Program)(w:World)(q:Addr)(ns:List Int):HO:=.ext λh=>∃es ep t,h.get? q=some (aa3 es ep t)/\SetE P w es t/\∀x,x∈acK es↔x∈ns
theorem Inv.other{X:Cx}{pins:List (Addr×Obj)}{σ:St}{H:Hp}{s s':Shared}(I:Inv X pins σ H s)(e1:s'.heap=s.heap)(e2:s'.gens=s.gens)(e3:s'.os=s.os):Inv X pins σ H s':=by
 obtain⟨h,g,d,t,o⟩:=s;obtain⟨h',g',d',t',o'⟩:=s';cases e1;cases e2;cases e3;exact⟨I.ok,I.os,I.bare,I.base,I.loc,I.cell,I.free,I.freeC,I.pin,I.hok,I.len⟩
theorem asA:∀{ns:List Int} {us:List Value},Vals (ns.map V.int) us->IntsAre us ns
 |[],_,r=>by cases r;exact .nil
 |n::ns,_,.cons h r=>by
  obtain⟨t,rfl⟩:=h;exact .cons n t (asA r)
theorem aiH:∀(n:Nat) {zs:List Int},zs.Nodup->(∀x∈zs,0<=x/\x<n)->zs.length<=n
 |0,zs,_,hb=>by
  cases zs with
  |nil=>exact aQ _
  |cons x r=>
   have:=hb x (by simp);omega
 |n+1,zs,hn,hb=>by
  by_cases c:(n:Int)∈zs
  ·have h1:=aiH n (hn.erase (n:Int)) λx hx=>by
    obtain⟨h2,h3⟩:=hn.mem_erase_iff.mp hx;have:=hb x h3;omega
   rw[List.length_erase_of_mem c] at h1;omega
  ·have h1:=aiH n hn λx hx=>by
    have:=hb x hx;have:x≠n:=λe=>c (e▸hx);omega
   omega
section
variable{X:Cx}
theorem cSet(hc:X.calm=true:=by rfl):Cl1 X (.type "set") (λxs H Q=>∃(p:Addr) (ns:List Int),xs=[.ref p]/\SqL X.K H p (ns.map V.int)/\ns.length+1<4096/\∀q,H q=none->Q (.ref q) (upd H q (stO X.prog X.w q ns))):=by
 refine⟨λpins s σ H xs us Q I r h=>?_⟩;obtain⟨p,ns,rfl,hS,hl,k⟩:=h;obtain⟨u,rfl,ru⟩:=acC r;cases ru;obtain⟨its,rv,pl,hlen⟩:=I.list hS;have hi:=asA rv;refine azA (I.ok.hd hc) pl.isList (by simpa using hi) (by have:=IntsAre.length hi;show its.toArray.size+1<4096;rw[bI];omega) λh' tk es ep t e SE m kp=>?_;refine⟨.ref s.heap.objs.size,_,I.laid (a:=s.heap.objs.size) (o:=stO X.prog X.w s.heap.objs.size ns) kp (aQ _) ⟨⟨es,ep,t,e,SE,m⟩,⟨_,e⟩,λh1 h2 ⟨es,ep,t,e,SE,m⟩ kk=>⟨es,ep,t,kk _ e,SE,m⟩⟩,rfl,k _ (I.hok.fresh (aQ _))⟩
theorem cSrt(hc:X.calm=true:=by rfl):Cl1 X (.builtin "sorted") (λxs H Q=>∃(q:Addr) (ns:List Int),xs=[.ref q]/\H q=some (stO X.prog X.w q ns)/\(∀x∈ns,0<=x/\x<63)/\∀(D:Addr) (zs:List Int),H D=none->zs.Pairwise (·<·)->(∀x,x∈zs↔x∈ns)->Q (.ref D) (upd H D (.lst (zs.map V.int)))):=by
 refine⟨λpins s σ H xs us Q I r h=>?_⟩;obtain⟨q,ns,rfl,hq,hb,k⟩:=h;obtain⟨u,rfl,ru⟩:=acC r;cases ru;obtain⟨es,ep,t,e,SE,m⟩:=(I.hok q _ hq).1;have h63:=aiH 63 SE.nd λx hx=>hb x ((m x).mp hx);have hes:es.size<64:=by
  unfold acK at h63;rw[aR,bS] at h63;omega
 refine avT (I.ok.hd hc) e SE hes λs' D vs zs c lD eD hi hp hm kp g o=>?_;have vz:=ajF hi;have lz:zs.length<=63:=aiH 63 (hp.imp λh=>by omega) λx hx=>hb x ((m x).mp ((hm x).mp hx));have J:=(I.laid (a:=D) (o:=.lst (zs.map V.int)) (t':=s.toks) (h':=s'.heap) kp lD ⟨by rw[aR,eU];omega,vs,c,vz,eD⟩).other (s':=s') rfl g o;exact⟨.ref D,_,J,rfl,k D zs (I.hok.fresh lD) hp λx=>(hm x).trans (m x)⟩
variable{js:List Nat}{σ:St}{tt:TT}{te:TE}{Q:VK}{H1:Hp}
end
theorem ifX{a b:List Nat}{A B:Prop}(h1:a=b->A)(h2:¬a=b->B):if decide (V.str (Tx a)=V.str (Tx b))=true then A else B:=by
 rw[aC9];exact ifD h1 h2
theorem aT4{a:List Nat}{A B:Prop}(h:A):if decide (V.str (Tx a)=V.str (Tx a))=true then A else B:=ifX (λ_=>h) λc=>absurd rfl c
theorem acA{a b:List Nat}{A B:Prop}(c:¬a=b)(h:B):if decide (V.str (Tx a)=V.str (Tx b))=true then A else B:=ifX (λe=>absurd e c) λ_=>h
end L2
namespace KM
open PySem PySem.Spec PyProof.Rows L2
inductive Mk where
 |num (m:Int) | lst (b:Int) | nea (d:Int) | wrk | wkd (m:Int) | nth (w m:Int) | one (w:Int) | nil
 deriving DecidableEq
abbrev Ko:=Option (List Mk)
def Lf(l f:Int):Prop:=(28<=l/\l<=31)/\0<=f/\f<=6
noncomputable def agE(ds:List Int):Int:=(ds.map λd=>1*2^d.toNat).sum
noncomputable def asc:List Int->Bool
 |[]=>true
 |[_]=>true
 |x::y::r=>decide (x<y)&&asc (y::r)
noncomputable def okA(ds:List Int):Bool:=decide (ds.length<=31)&&(asc ds&&ds.all λd=>decide (0<=d)&&decide (d<=31))
theorem aCV:∀{ds:List Int},asc ds=true->ds.Pairwise (·<·)
 |[],_=>.nil
 |[_],_=>.cons (λ_ h=>nomatch h) .nil
 |x::y::r,h=>by
  have h':(decide (x<y)&&asc (y::r))=true:=h;rw[bH] at h';have ih:=aCV h'.2;refine .cons (λz hz=>?_) ih;rcases aX.mp hz with rfl | hz
  ·exact eY h'.1
  ·exact Int.lt_trans (eY h'.1) ((dJ.mp ih).1 z hz)
theorem aKO{ds:List Int}(h:okA ds=true):ds.length<=31/\ds.Pairwise (·<·)/\∀d∈ds,0<=d/\d<=31:=by
 unfold okA at h;rw[bH,bH] at h;refine⟨eY h.1,aCV h.2.1,λd hd=>?_⟩;have z:=bV.mp h.2.2 d hd;rw[bH] at z;exact⟨eY z.1,eY z.2⟩
theorem ax4(ds:List Int):0<=agE ds:=by
 unfold agE;induction ds with
 |nil=>exact aS 0
 |cons d ds ih=>
  have:=aaN d.toNat;rw[bG,List.sum_cons];omega
theorem axV{n:Nat}:∀{ds:List Int} (a:Nat),ds.Pairwise (·<·)->(∀d∈ds,(a:Int)<=d/\d<(n:Int))->a<=n->agE ds+2^a<=2^n
 |[],a,_,_,h=>by
  have:=Nat.pow_le_pow_right (show 0<2 by decide) h;have e:((2:Int)^a)<=2^n:=by exact_mod_cast this
  show (0:Int)+2^a<=2^n;omega
 |d::ds,a,hp,hb,h=>by
  have p:=dJ.mp hp;have hd:=hb d (bE ..);have ih:=axV (n:=n) (d.toNat+1) p.2 (λz hz=>by
   have:=p.1 z hz;have:=hb z (bF _ hz);omega) ⋯
  have hm:=Nat.pow_le_pow_right (show 0<2 by decide) (show a<=d.toNat by omega);have e:((2:Int)^a)<=2^d.toNat:=by exact_mod_cast hm
  have e2:(2:Int)^(d.toNat+1)=2^d.toNat*2:=Int.pow_succ ..;unfold agE at ih ⊢;rw[bG,List.sum_cons];omega
noncomputable def ahF(m l:Int):Int:=Builtin.bitAnd m (2*2^l.toNat-2)
noncomputable def aq2(b l:Int):Int:=if l<=b then 0 else 1*2^(l-b).toNat
noncomputable def arW(m:Int)(n:Nat):Bool:=decide (Builtin.bitAnd (m / 2^(1+(n:Int)).toNat) 1=1)
noncomputable def ajX(m:Int):Nat->List Int
 |0=>[]
 |n+1=>ajX m n++(if arW m n=true then [1+(n:Int)] else [])
noncomputable def nw(d l f:Int):Int:=if (f+d-1)%7=6 then (if 1<d then d-1 else 3) else if (f+d-1)%7=0 then (if d<l then d+1 else l-2) else d
noncomputable def arF(d l f:Int):Int:=if l<d then 0 else 1*2^(nw d l f).toNat
noncomputable def wk(f:Int)(n:Nat):Bool:=decide (1<=(f+(1+(n:Int))-1)%7)&&decide ((f+(1+(n:Int))-1)%7<=5)
noncomputable def aBF(f:Int):Nat->List Int
 |0=>[]
 |n+1=>aBF f n++(if wk f n=true then [1+(n:Int)] else [])
noncomputable def ab(i:Int):Int:=if i<0 then -i else i
noncomputable def stp(d acc o:Int):Int:=if acc=0 then o else if ab (o-d)<ab (acc-d) then o else acc
noncomputable def acN(w m f:Int):Int:=1+(w-f)%7+7*(m-1)
noncomputable def ahS(w m l f:Int):Int:=if l<acN w m f then 0 else 1*2^(acN w m f).toNat
noncomputable def ad9(w l f:Int):Int:=l-((f+l-1)%7-w)%7
noncomputable def aAR(w l f:Int):Int:=1*2^(ad9 w l f).toNat
noncomputable def wks(m:Int):Nat->Int
 |0=>0
 |n+1=>Builtin.bitOr (wks m n) (m*2^(7*(0+(n:Int))).toNat)
noncomputable def wkD(m l f:Int):Int:=Builtin.bitAnd (wks m 6 / 2^f.toNat*2^(1:Int).toNat) (2*2^l.toNat-2)
noncomputable def onD(f w:Int)(n:Nat):Bool:=decide ((f+(1+(n:Int))-1)%7=w)
noncomputable def onN(f w:Int):Nat->List Int
 |0=>[]
 |n+1=>onN f w n++(if onD f w n=true then [1+(n:Int)] else [])
noncomputable def aC2(m f:Int)(n:Nat):Bool:=decide (Builtin.bitAnd (m / 2^((f+(1+(n:Int))-1)%7).toNat) 1=1)
noncomputable def wkN(m f:Int):Nat->List Int
 |0=>[]
 |n+1=>wkN m f n++(if aC2 m f n=true then [1+(n:Int)] else [])
noncomputable def acF:List Int:=[1,2,3,4,5,6,7,8,9,10,11,12,13,14,15,16,17,18,19,20,21,22,23,24,25,26,27,28,29,30,31]
noncomputable def ls4:List Int:=[28,29,30,31]
noncomputable def fs7:List Int:=[0,1,2,3,4,5,6]
noncomputable def ms5:List Int:=[1,2,3,4,5]
noncomputable def apF:List Int:=(List.range 128).map λn:Nat=>(n:Int)
theorem aA8:∀l∈ls4,∀f∈fs7,∀d∈acF,d<=l->(aBF f l.toNat).foldl (stp d) 0=nw d l f/\1<=nw d l f/\nw d l f<=31:=by decide +kernel
theorem aGC:∀l∈ls4,∀f∈fs7,∀w∈fs7,∀m∈ms5,ahS w m l f=agE (aMU (onN f w l.toNat) (some (m-1)) (some m))/\okA (aMU (onN f w l.toNat) (some (m-1)) (some m))=true/\0<=acN w m f/\acN w m f<=100:=by decide +kernel
theorem aE4:∀l∈ls4,∀f∈fs7,∀w∈fs7,atI ((onN f w l.toNat).map V.int) (-1)=some (V.int (ad9 w l f))/\0<=ad9 w l f/\ad9 w l f<=31:=by decide +kernel
theorem aD3:∀m∈apF,∀l∈ls4,∀f∈fs7,wkD m l f=agE (wkN m f l.toNat)/\okA (wkN m f l.toNat)=true:=by decide +kernel
theorem aFT:∀m∈apF,(∀n:Nat,n<7->(wks m n).natAbs<2^60)/\∀f∈fs7,(wks m 6 / 2^f.toNat).natAbs<2^64:=by decide +kernel
theorem adG{l:Int}(h0:28<=l)(h1:l<=31):l∈ls4:=by
 have:l=28∨l=29∨l=30∨l=31:=⋯;rcases this with rfl | rfl | rfl | rfl<;>decide
theorem adH{f:Int}(h0:0<=f)(h1:f<=6):f∈fs7:=by
 have:f=0∨f=1∨f=2∨f=3∨f=4∨f=5∨f=6:=⋯;rcases this with rfl | rfl | rfl | rfl | rfl | rfl | rfl<;>decide
theorem aKE{m:Int}(h0:1<=m)(h1:m<=5):m∈ms5:=by
 have:m=1∨m=2∨m=3∨m=4∨m=5:=⋯;rcases this with rfl | rfl | rfl | rfl | rfl<;>decide
theorem aBE{m:Int}(h0:0<=m)(h1:m<=127):m∈apF:=by
 unfold apF;exact bD.mpr ⟨m.toNat,cT.mpr ⋯,⋯⟩
theorem alJ{d:Int}(h0:1<=d)(h1:d<=31):d∈acF:=by
 have e:d=1+((d-1).toNat:Int):=⋯;have hn:(d-1).toNat<31:=⋯;rw[e];generalize (d-1).toNat=n at hn;have all:∀n:Nat,n<31->(1+(n:Int))∈acF:=by decide +kernel
 exact all n hn
theorem in_b{d:Int}(h0:0<=d)(h1:d<=30):d∈0::acF:=by
 by_cases e:d=0
 ·rw[e];exact bE ..
 ·exact bF _ (alJ ⋯ ⋯)
def Ok3(d l f:Int):Prop:=(1<=d/\d<=31)/\(28<=l/\l<=31)/\0<=f/\f<=6
theorem alM{d l f:Int}(h:Ok3 d l f)(hd:d<=l):(aBF f l.toNat).foldl (stp d) 0=nw d l f/\1<=nw d l f/\nw d l f<=31:=aA8 l (adG h.2.1.1 h.2.1.2) f (adH h.2.2.1 h.2.2.2) d (alJ h.1.1 h.1.2) hd
theorem Lf.last{l f:Int}(h:Lf l f):Ok3 l l f:=⟨⟨by have:=h.1.1;omega,h.1.2⟩,h.1,h.2⟩
theorem aEH{m:Int}(h:0<=m)(n:Nat):arW m n=tb m (n+1):=by
 have e:(1+(n:Int)).toNat=n+1:=⋯;unfold arW;rw[e];by_cases c:tb m (n+1)=true
 ·rw[c];exact eZ ((af4 h _).mpr c)
 ·have c':tb m (n+1)=false:=by simpa using c
  rw[c'];exact fC λq=>c ((af4 h _).mp q)
noncomputable def aBN(m:Int)(i:Nat):Bool:=decide (1<=i)&&tb m i
theorem auG{m:Int}(h:0<=m):∀n:Nat,agE (ajX m n)=mk_ (aBN m) (n+1)
 |0=>by
  have e:aBN m 0=false:=rfl;rw[aw5,aE6,e];rfl
 |n+1=>by
  have ih:=auG h n;rw[aw5,←ih];show agE (ajX m n++(if arW m n=true then [1+(n:Int)] else []))=_;have e:aBN m (n+1)=arW m n:=by rw[aEH h];unfold aBN;simp
  have e1:(1+(n:Int)).toNat=n+1:=⋯;rw[e];unfold agE;rw[bB,List.sum_append];by_cases c:arW m n=true
  ·rw[if_pos c,if_pos c];show _+(1*2^(1+(n:Int)).toNat+0)=_;rw[e1];omega
  ·rw[if_neg c,if_neg c];rfl
theorem aq5(m:Int):∀n:Nat,(ajX m n).length<=n/\(ajX m n).Pairwise (·<·)/\∀d∈ajX m n,0<=d/\d<=n
 |0=>⟨aQ _,.nil,λd hd=>nomatch hd⟩
 |n+1=>by
  obtain⟨h1,hp,h2⟩:=aq5 m n;show (ajX m n++(if arW m n=true then [1+(n:Int)] else [])).length<=n+1/\(ajX m n++(if arW m n=true then [1+(n:Int)] else [])).Pairwise (·<·)/\∀d∈ajX m n++(if arW m n=true then [1+(n:Int)] else []),_;split
  ·refine⟨by simp;omega,List.pairwise_append.mpr ⟨hp,.cons (λ_ h=>nomatch h) .nil,λa ha b hb=>?_⟩,λd hd=>?_⟩
   ·have:b=1+(n:Int):=by simpa using hb
    have:=h2 a ha;omega
   ·rcases bO.mp hd with z | z
    ·have:=h2 d z;omega
    ·have:d=1+(n:Int):=by simpa using z
     omega
  ·rw[cU];refine⟨⋯,hp,λd hd=>?_⟩;have:=h2 d hd;omega
theorem av6{m l:Int}(h:0<=m)(hl:28<=l/\l<=31):ahF m l=agE (ajX m l.toNat)/\(ajX m l.toNat).length<=31/\(ajX m l.toNat).Pairwise (·<·)/\∀d∈ajX m l.toNat,0<=d/\d<=31:=by
 obtain⟨k1,kp,k2⟩:=aq5 m l.toNat;have hp:=aaN l.toNat;refine⟨?_,⋯,kp,λd hd=>by have:=k2 d hd;omega⟩;rw[auG h];have e:(2*2^l.toNat-2:Int)=(2^l.toNat-1)*2^1:=⋯;have n0:(0:Int)<=2^l.toNat-1:=⋯;have n1:(0:Int)<=(2^l.toNat-1)*2^1:=⋯;unfold ahF;rw[e];refine abR (aiU h n1) (aCF _ _) λi=>?_;rw[adQ h n1,alW n0,axB,aAO];unfold aBN;by_cases c1:1<=i
 ·have:(i-1<l.toNat)↔(i<l.toNat+1):=⋯;simp only[c1,this,decide_true,cY];rw[Bool.and_comm]
 ·simp[c1]
theorem rng{l:Int}(hl:28<=l/\l<=31):(-(2^62)<=(1:Int)/\(1:Int)<2^62/\ -(2^62)<=l+1/\l+1<2^62)/\(l+1-1).toNat=l.toNat/\(l+1-1).toNat<=sizeLine:=by
 obtain⟨h0,h1⟩:=hl;refine⟨⟨by decide,by decide,⋯,⋯⟩,⋯,?_⟩;rw[eU];omega
noncomputable def aqZ(w m:Int):List (Str×V):=aaT "many" (.int m) (aaT "weekday" (.int w) [])
theorem ne1:¬(("weekday":Str)="many"):=by decide +kernel
theorem aK5(w m:Int):(aqZ w m).lookup ("weekday":Str)=some (.int w):=by
 unfold aqZ;rw[aaE,if_neg ne1,aaE,if_pos rfl]
theorem aJQ(w m:Int):(aqZ w m).lookup ("many":Str)=some (.int m):=by
 unfold aqZ;rw[aaE,if_pos rfl]
theorem aEV(w m:Int):(aqZ w m).lookup ("days":Str)=none:=by
 unfold aqZ;rw[aaE,if_neg (by decide +kernel),aaE,if_neg (by decide +kernel)];rfl
noncomputable def Mk.due:Mk->Int->Int->Int
 |.num m,l,_=>ahF m l
 |.lst b,l,_=>aq2 b l
 |.nea d,l,f=>arF d l f
 |.wrk,l,f=>1*2^(nw l l f).toNat
 |.wkd m,l,f=>wkD m l f
 |.nth w m,l,f=>ahS w m l f
 |.one w,l,f=>aAR w l f
 |.nil,_,_=>0
def Mk.ok:Mk->Prop
 |.num m=>0<=m
 |.lst b=>0<=b/\b<=30
 |.nea d=>1<=d/\d<=31
 |.wrk=>True
 |.wkd m=>0<=m/\m<=127
 |.nth w m=>(0<=w/\w<=6)/\1<=m/\m<=5
 |.one w=>0<=w/\w<=6
 |.nil=>True
noncomputable def Mk.wk:Mk->Bool
 |.wkd _ | .nth _ _ | .one _=>true
 |_=>false
noncomputable def Mk.tup:Mk->List V
 |.num m=>[.str (Tx [112,108,97,105,110]),.int m,.int 0]
 |.wkd m=>[.str (Tx [112,108,97,105,110]),.int m,.int 0]
 |.lst b=>[.str (Tx [108,97,115,116]),.int b,.int 0]
 |.nea d=>[.str (Tx [110,101,97,114]),.int d,.int 0]
 |.wrk=>[.str (Tx [119,111,114,107]),.int 0,.int 0]
 |.nth w m=>[.str (Tx [110,116,104]),.int w,.int m]
 |.one w=>[.str (Tx [108,97,115,116,111,110,101]),.int w,.int 0]
 |.nil=>[]
noncomputable def Mk.sp:Mk->Bool
 |.nil=>false
 |_=>true
theorem amA{k:Mk}{l f:Int}(hk:k.ok)(h:Lf l f):0<=k.due l f:=by
 have p1:∀n:Nat,(0:Int)<=1*2^n:=λn=>by have:=aaN n;omega
 cases k with
 |num m=>show 0<=ahF m l;rw[(av6 hk h.1).1];exact ax4 _
 |lst b=>show 0<=aq2 b l;unfold aq2;split;exact aS 0;exact p1 _
 |nea d=>show 0<=arF d l f;unfold arF;split;exact aS 0;exact p1 _
 |wrk=>exact p1 _
 |wkd m=>show 0<=wkD m l f;rw[(aD3 m (aBE hk.1 hk.2) l (adG h.1.1 h.1.2) f (adH h.2.1 h.2.2)).1];exact ax4 _
 |nth w m=>show 0<=ahS w m l f;unfold ahS;split;exact aS 0;exact p1 _
 |one w=>exact p1 _
 |nil=>exact aS 0
noncomputable def orK(ks:List Mk)(l f:Int):Int:=orM (ks.map λk=>k.due l f)
theorem aA2(ks:List Mk)(k:Mk)(l f:Int):orK (ks++[k]) l f=Builtin.bitOr (orK ks l f) (k.due l f):=by unfold orK;rw[bB];exact afC _ _
theorem aI9{ks ks':List Mk}{l f:Int}(h:Lf l f)(o:∀k∈ks,k.ok)(o':∀k∈ks',k.ok)(e:∀i,(ks.any λk=>tb (k.due l f) i)=(ks'.any λk=>tb (k.due l f) i)):orK ks l f=orK ks' l f:=by
 have n:∀(js:List Mk),(∀k∈js,k.ok)->∀m∈js.map (λk=>k.due l f),0<=m:=λjs hj m hm=>by
  obtain⟨k,hk,rfl⟩:=bD.mp hm;exact amA (hj k hk) h
 refine abR (acO (n ks o)) (acO (n ks' o')) λi=>?_;unfold orK;rw[ab5 (n ks o),ab5 (n ks' o'),List.any_map,List.any_map];exact e i
structure Cs where
 (nu la ne lw we nt lo ma:Addr)
def MkAt(c:Cs)(H:Hp)(x:Addr):Mk->Prop
 |.num m=>∃dx,H x=some (.ins c.nu dx [("mask",.int m)])
 |.lst b=>∃dx,H x=some (.ins c.la dx [("back",.int b)])
 |.nea d=>∃dx,H x=some (.ins c.ne dx [("day",.int d)])
 |.wrk=>∃dx,H x=some (.ins c.lw dx [])
 |.wkd m=>∃dx,H x=some (.ins c.we dx [("mask",.int m)])
 |.nth w m=>∃dx,H x=some (.ins c.nt dx (aqZ w m))
 |.one w=>∃dx,H x=some (.ins c.lo dx [("weekday",.int w)])
 |.nil=>∃dx,H x=some (.ins c.ma dx [])
theorem MkAt.keep{c:Cs}{H H':Hp}(s:Keep H H'){x:Addr}{k:Mk}(h:MkAt c H x k):MkAt c H' x k:=by
 cases k<;>(obtain⟨dx,h⟩:=h;exact⟨dx,s.ins h⟩)
def PrAt(H:Hp)(p:Addr)(k:Mk):Prop:=k.ok/\k.sp=true/\∃u,H p=some (.tup [.ref u,.bl k.wk])/\H u=some (.tup k.tup)
theorem PrAt.keep{H H':Hp}(s:Keep H H'){p:Addr}{k:Mk}(h:PrAt H p k):PrAt H' p k:=by
 obtain⟨o,e,u,h1,h2⟩:=h;exact⟨o,e,u,s.tup h1,s.tup h2⟩
abbrev Ft(R:Addr->Mk->Prop):List Addr->List Mk->Prop:=Paired R
theorem Ft.get{R:Addr->Mk->Prop}:∀{ps:List Addr} {ks:List Mk},Ft R ps ks->∀{i:Nat} {p:Addr},ps[i]? =some p->∃k,ks[i]? =some k/\R p k
 |_,_,.nil,_,_,h=>nomatch h
 |_,_,.cons r _,0,_,h=>by cases h;exact⟨(),r⟩
 |_,_,.cons _ t,i+1,_,h=>Ft.get t h
theorem Ft.keepM{c:Cs}{H H':Hp}(s:Keep H H'){ps:List Addr}{ks:List Mk}(h:Ft (MkAt c H) ps ks):Ft (MkAt c H') ps ks:=Paired.imp' (λ_ _ z=>z.keep s) h
theorem Ft.app{R:Addr->Mk->Prop}:∀{ps:List Addr} {ks:List Mk} {ps':List Addr} {ks':List Mk},Ft R ps ks->Ft R ps' ks'->Ft R (ps++ps') (ks++ks')
 |_,_,_,_,.nil,h=>h
 |_,_,_,_,.cons r t,h=>.cons r (Ft.app t h)
theorem Ft.all{H:Hp}:∀{ps:List Addr} {ks:List Mk},Ft (PrAt H) ps ks->∀k∈ks,k.ok
 |_,_,.nil,k,hk=>nomatch hk
 |_,_,.cons r t,k,hk=>by
  rcases aX.mp hk with rfl | hk
  ·exact r.1
  ·exact Ft.all t k hk
end KM
namespace L2
open PySem
theorem aLD{us:List Value}(h:us.length=1):∃a,us=[a]:=by
 cases us with
 |nil=>cases h
 |cons a r=>cases r with
  |nil=>exact⟨a,rfl⟩
  |cons b r=>cases h
theorem aER{us:List Value}{n:Nat}(h:us.length=n+1):∃a r,us=a::r/\r.length=n:=by
 cases us with
 |nil=>cases h
 |cons a r=>exact⟨a,r,rfl,Nat.succ.inj h⟩
theorem aS8{us:List Value}(h:us.length=2):∃a b,us=[a,b]:=by
 obtain⟨a,r,rfl,h'⟩:=aER h;obtain⟨b,rfl⟩:=aLD h';exact⟨a,b,rfl⟩
theorem aO9{us:List Value}(h:us.length=3):∃a b c,us=[a,b,c]:=by
 obtain⟨a,r,rfl,h'⟩:=aER h;obtain⟨b,c,rfl⟩:=aS8 h';exact⟨a,b,c,rfl⟩
theorem aUI{us:List Value}(h:us.length=4):∃a b c d,us=[a,b,c,d]:=by
 obtain⟨a,r,rfl,h'⟩:=aER h;obtain⟨b,c,d,rfl⟩:=aO9 h';exact⟨a,b,c,d,rfl⟩
theorem len5{us:List Value}(h:us.length=5):∃a b c d e,us=[a,b,c,d,e]:=by
 obtain⟨a,r,rfl,h'⟩:=aER h;obtain⟨b,c,d,e,rfl⟩:=aUI h';exact⟨a,b,c,d,e,rfl⟩
structure DfA(P:Program)(w:World)(K:FG)(mg:Str->Option Value)(base:Heap)(f:Addr)(k:Nat)(ps:List Str)(sp:Sp):Prop where
 ex:∃fd:FuncData,FnOk P w K mg base CX0 k f fd ps sp/\Binds K fd ps []/\PySem.W.keepIn K (.ref f)=true
theorem Df.at_{P:Program}{w:World}{K:FG}{mg:Str->Option Value}{base:Heap}{x:Str}{k:Nat}{ps:List Str}{sp:Sp}{f:Addr}(D:Df P w K mg base x k ps sp)(hm:mg x=some (.ref f)):DfA P w K mg base f k ps sp:=by
 obtain⟨f',fd,F,hb,hm',kp⟩:=D.ex;rw[hm] at hm';cases hm';exact⟨fd,F,hb,kp⟩
def aKB(f:Addr)(sp:Sp)(tv:TE)(t:TA):TE:=λσ H Q=>tv σ H λv H1=>v=.ref f/\axO sp [] E0 t σ H1 Q
section
variable{X:Cx}{f:Addr}{k k':Nat}{ps:List Str}{sp:Sp}{y:Str}{e:Expr}{es:List Expr}{t:TA}{tv:TE}{p pos:Pos}
theorem eDV(D:DfA X.prog X.w X.K X.mg X.base f k ps sp)(hr:Room k' X.A)(hv:E X (.Name y p) tv)(ha:As X (e::es) t)(hk:k<=k':=by decide)
  (he:starEach (e::es) X.env=(false,eval e X.env)::starEach es X.env:=by rfl) (hpl:(backTo pos (starEach es X.env)).any (·.1)=false:=by rfl):E X (.Call (.Name y p) (e::es) [] pos) (aKB f sp tv t):=by
 obtain⟨fd,F,hb,kp⟩:=D.ex;refine⟨λpins s σ H Q I h=>?_⟩;refine fE (thn (hv.h pins s σ H _ I h) λv s1 ⟨x,H1,I1,r1,ex,q⟩=>?_);subst ex;cases r1;refine PySem.W.callWith_K (h₀:=X.base) I1.ok.mod.kin kp (thn (ha.h pos pins s1 σ H1 _ I1 q) λus s2 ⟨vs,H2,I2,r,q2⟩=>⟨I2.kIn,?_⟩) he hpl;exact avS F (hr.mono hk) hb .nil auV I2 r q2
end
section
variable{X:Cx}
def aU0:V->List V->Hp->VK->Prop:=λx vs H Q=>∃l p:List Nat,x=.str (Tx l)/\vs=[.str (Tx p)]/\Q (.bl (decide (l.take p.length=p))) H
theorem aKK(l p:List Nat):(decide (0+(Tx p).length<=(Tx l).length)&&Builtin.Str.subAt (Tx l) (Tx p) 0)=decide (l.take p.length=p):=by
 rw[abP,abP];have e:(Tx l).cps.extract 0 (0+(Tx p).length)=(l.take p.length).toArray:=by
  rw[abP];show l.toArray.extract 0 (0+p.length)=_;simp
 have e2:(((l.take p.length).toArray==p.toArray:Bool))=decide (l.take p.length=p):=by
  by_cases h:l.take p.length=p
  ·rw[h];simp
  ·rw[fC h];exact beq_eq_false_iff_ne.mpr λz=>h (by simpa using congrArg Array.toList z)
 unfold Builtin.Str.subAt;rw[e];show (_&&((l.take p.length).toArray==p.toArray))=_;rw[e2];by_cases h:l.take p.length=p
 ·have:0+p.length<=l.length:=by
   have:=congrArg List.length h;rw[dE] at this;omega
  rw[eZ this,cY]
 ·rw[fC h,cM]
theorem aH1:MtR X "str.startswith" aU0:=by
 intro pins s σ H x xs v us Q I rx rv h;obtain⟨l,p,rfl,rfl,q⟩:=h;obtain⟨u,rfl,r1⟩:=acC rv;obtain⟨t',rfl⟩:=r1;obtain⟨t,rfl⟩:=rx;refine call_gives PySem.F.slot_str_startswith (typeIs_str _ _ _) PySem.F.entry_str_startswith (PySem.F.args_str_startswith_2 _ _) (gives_str_startswith (Tx l) (Tx p) t t') ?_;rw[aKK];exact⟨.bl _,H,I,rfl,q⟩
theorem eSwN{o e:Expr}{to te:TE}{apos cpos:Pos}(ho:E X o to)(he:E X e te)(hbase:attributeBase o "startswith" X.env (eval o X.env)=eval o X.env:=by rfl)
  (hfew:((backTo cpos (starEach [e] X.env)).all (λx=> !x.1)&&(backToKw cpos (keywordEach [] X.env)).all (λx=>x.1.isSome)&&decide (([e]:List Expr).length+([]:List Keyword).length+(if ([]:List Keyword).isEmpty then 0 else 1)<30))=true:=by rfl)
  (hline:(apos.endLine==cpos.line)=true:=by rfl) (hs:starEach [e] X.env=(false,eval e X.env)::starEach [] X.env:=by rfl) (hplain:(backTo cpos (starEach [] X.env)).any (·.1)=false:=by rfl):
  E X (.Call (.Attribute o "startswith" apos) [e] [] cpos) (tBM X.K "str" aU0 to (acV te aiM)):=
 ⟨asR PySem.F.plainAttrs_str PySem.F.slot_str_startswith PySem.F.type_str_startswith aH1 ho.h (adN he.h afL hs) hbase hfew hline hs hplain⟩
def rEw:V->List V->Hp->VK->Prop:=λx vs H Q=>∃(l:List Nat) (c:Nat),x=.str (Tx l)/\vs=[.str (Tx [c])]/\Q (.bl (decide (l.getLast? =some c))) H
theorem aTS(l:List Nat)(c:Nat):(decide (0+(Tx [c]).length<=(Tx l).length)&&Builtin.Str.subAt (Tx l) (Tx [c]) ((Tx l).length-(Tx [c]).length))=decide (l.getLast? =some c):=by
 rw[abP,abP];rcases List.eq_nil_or_concat l with rfl | ⟨r,x,rfl⟩
 ·simp
 ·rw[List.concat_eq_append];have e:(Tx (r++[x])).cps.extract ((r++[x]).length - [c].length) ((r++[x]).length - [c].length+(Tx [c]).length)= #[x]:=by
   show (r++[x]).toArray.extract ((r++[x]).length-1) ((r++[x]).length-1+1)= #[x];rw[aY,bX,Nat.add_sub_cancel];simp
  unfold Builtin.Str.subAt;rw[e];have e2:decide (0+[c].length<=(r++[x]).length)=true:=by simp
  rw[e2,cY,List.getLast?_append,List.getLast?_singleton];show (#[x]== #[c])=decide (some x=some c);by_cases h:x=c
  ·subst h;simp
  ·have h2:¬some x=some c:=λz=>h (aZ z);rw[fC h2];exact beq_eq_false_iff_ne.mpr λz=>h (by simpa using z)
theorem aQX:MtR X "str.endswith" rEw:=by
 intro pins s σ H x xs v us Q I rx rv h;obtain⟨l,c,rfl,rfl,q⟩:=h;obtain⟨u,rfl,r1⟩:=acC rv;obtain⟨t',rfl⟩:=r1;obtain⟨t,rfl⟩:=rx;refine call_gives PySem.F.slot_str_endswith (typeIs_str _ _ _) PySem.F.entry_str_endswith (PySem.F.args_str_endswith_2 _ _) (gives_str_endswith (Tx l) (Tx [c]) t t') ?_;rw[aTS];exact⟨.bl _,H,I,rfl,q⟩
theorem eEw{o e:Expr}{to te:TE}{apos cpos:Pos}(ho:E X o to)(he:E X e te)(hbase:attributeBase o "endswith" X.env (eval o X.env)=eval o X.env:=by rfl)
  (hfew:((backTo cpos (starEach [e] X.env)).all (λx=> !x.1)&&(backToKw cpos (keywordEach [] X.env)).all (λx=>x.1.isSome)&&decide (([e]:List Expr).length+([]:List Keyword).length+(if ([]:List Keyword).isEmpty then 0 else 1)<30))=true:=by rfl)
  (hline:(apos.endLine==cpos.line)=true:=by rfl) (hs:starEach [e] X.env=(false,eval e X.env)::starEach [] X.env:=by rfl) (hplain:(backTo cpos (starEach [] X.env)).any (·.1)=false:=by rfl):
  E X (.Call (.Attribute o "endswith" apos) [e] [] cpos) (tBM X.K "str" rEw to (acV te aiM)):=
 ⟨asR PySem.F.plainAttrs_str PySem.F.slot_str_endswith PySem.F.type_str_endswith aQX ho.h (adN he.h afL hs) hbase hfew hline hs hplain⟩
end
end L2
namespace KM
open PySem PySem.Spec PyProof.Rows L2
noncomputable def adW(t:List Nat):Option Mk:=
 if t=[76] then some (.lst 0) else if t=[76,87] then some .wrk
 else if t.take ([76,45]:List Nat).length=[76,45] then (aaW 1 30 (agD t (some 2) none)).map Mk.lst
 else if t.getLast? =some 87 then (aaW 1 31 (agD t none (some (-1)))).map Mk.nea else none
noncomputable def wdN(t:List Nat):Option Int:=(aaW 0 7 t).map λn=>if n=7 then 0 else n
noncomputable def aHD:Option Int->Option Int->Option Mk
 |some w,some m=>some (.nth w m)
 |_,_=>none
noncomputable def aqU(t:List Nat):Option Mk:=
 if t.getLast? =some 76 then (wdN (agD t none (some (-1)))).map Mk.one
 else match spl 35 t with
  |[a,b]=>aHD (wdN a) (aaW 1 5 b)
  |_=>none
noncomputable def rdM(wk:Bool)(t:List Nat):Option Mk:=if wk=true then aqU t else adW t
def MkV(c:Cs)(H:Hp)(v:V):Option Mk->Prop
 |none=>v=.non
 |some k=>∃x,v=.ref x/\MkAt c H x k
theorem ab2(c:Nat):∀(l:List Nat),∀w∈spl c l,w.length<=l.length
 |[],w,hw=>by simp[spl] at hw;simp[hw]
 |x::r,w,hw=>by
  have ih:=ab2 c r;unfold spl at hw;split at hw
  ·rcases aX.mp hw with z | z
   ·subst z;simp
   ·have:=ih w z;simp;omega
  ·split at hw
   ·rename_i h t e;rcases aX.mp hw with z | z
    ·subst z;have:=ih h (by rw[e];simp);simp;omega
    ·have:=ih w (by rw[e];simp[z]);simp;omega
   ·have:w=[x]:=by simpa using hw
    subst this;simp
noncomputable def plP(lo hi:Int)(ws:List (List Nat)):List Int:=ws.filterMap (aaL lo hi)
noncomputable def mkP(wk:Bool)(lo hi:Int)(ws:List (List Nat)):List Mk:=ws.filterMap λw=>if (aaL lo hi w).isSome=true then none else rdM wk w
theorem aGW{lo hi:Int}{ws:List (List Nat)}{w:List Nat}{m:Int}(h:aaL lo hi w=some m):plP lo hi (ws++[w])=plP lo hi ws++[m]:=by
 unfold plP;rw[eF];simp[h]
theorem aCK{lo hi:Int}{ws:List (List Nat)}{w:List Nat}(h:aaL lo hi w=none):plP lo hi (ws++[w])=plP lo hi ws:=by
 unfold plP;rw[eF];simp[h]
theorem aIS{wk:Bool}{lo hi:Int}{ws:List (List Nat)}{w:List Nat}{m:Int}(h:aaL lo hi w=some m):mkP wk lo hi (ws++[w])=mkP wk lo hi ws:=by
 unfold mkP;rw[eF];simp[h]
theorem alN{wk:Bool}{lo hi:Int}{ws:List (List Nat)}{w:List Nat}{k:Mk}(h:aaL lo hi w=none)(hk:rdM wk w=some k):mkP wk lo hi (ws++[w])=mkP wk lo hi ws++[k]:=by
 unfold mkP;rw[eF];simp[h,hk]
theorem atV(wk:Bool)(lo hi:Int)(ws:List (List Nat))(i:Nat):(mkP wk lo hi (ws.take i)).length<=(mkP wk lo hi ws).length:=((List.take_sublist i ws).filterMap _).length_le
structure ItemsOk(wk:Bool)(lo hi:Int)(l:List Nat):Prop where
 len:l.length<=300
 few:(spl 44 l).length<=40
 all:∀w∈spl 44 l,(aaL lo hi w).isSome=true∨(rdM wk w).isSome=true
 most:(mkP wk lo hi (spl 44 l)).length<=20
theorem aHG{xs:List V}(h:xs.length<=40):ai7 xs none (some 40)=xs:=by
 unfold ai7;have e1:HT.sIx xs.length 0 none=0:=rfl;have e2:xs.length<=HT.sIx xs.length xs.length (some 40):=by
  show xs.length<=HT.sIx xs.length xs.length (some 40);unfold HT.sIx;simp;omega
 rw[e1,List.drop_zero,Nat.sub_zero];exact eC e2
def RunV(H:Hp)(r:V):Option (Int×Int)->Prop
 |none=>r=.non
 |some (a,b)=>∃p,r=.ref p/\H p=some (.tup [.int a,.int b])
theorem aEX(es:List (Option Int)):(es.map oV).all afD=true:=by
 rw[List.all_map];refine bV.mpr λx _=>?_;cases x<;>rfl
noncomputable def wk7(m:Int):Int:=Builtin.bitAnd (Builtin.bitOr m (m / 2^(7:Int).toNat)) 127
noncomputable def agT(wk:Bool)(m:Int):List Mk:=if m=0 then [] else if wk=true then [.wkd (wk7 m)] else [.num m]
noncomputable def amR(wk:Bool)(lo hi:Int)(l:List Nat):List Mk:=agT wk (orM (plP lo hi (spl 44 l)))++mkP wk lo hi (spl 44 l)
def Cl(t:List Nat):Prop:=(44∉t/\32∉t)/\t≠[]/\t.length<=8
instance (t:List Nat):Decidable (Cl t):=by unfold Cl;exact inferInstance
def aeK(lo hi:Int)(t:List Nat)(ns:List Int):Prop:=aaL lo hi t=some (aaG ns)/\Cl t/\(∀n∈ns,lo<=n/\n<=hi)/\ns≠[]/\ns.length<=64
theorem adT{c:Nat}{a b:List Nat}{d:Nat}(h1:c∉a)(h2:c∉b)(h3:c≠d):c∉a++d::b:=by
 simp only[bO,aX,not_or];exact⟨h1,h3,h2⟩
theorem arA{a b:List Nat}{d:Nat}(ha:(44∉a/\32∉a)/\a≠[]/\a.length<=5)(hb:(44∉b/\32∉b)/\b.length<=2)(h1:44≠d)(h2:32≠d):Cl (a++d::b):=by
 refine⟨⟨adT ha.1.1 hb.1.1 h1,adT ha.1.2 hb.1.2 h2⟩,by simp,?_⟩;have:=ha.2.2;have:=hb.2;rw[aY,bZ];omega
theorem aeF{n:Nat}(h:n<100):(44∉num n/\32∉num n)/\num n≠[]/\(num n).length<=2:=⟨⟨abL h (by decide),abL h (by decide)⟩,aKH n,(ajS n h).2.2.2⟩
theorem ai4{a b s lo hi:Int}(h0:0<=a)(h1:b<=63)(hab:a<=b)(hs:0<s)(hl:lo<=a)(hb:b<=hi):(∀n∈adS a b s,lo<=n/\n<=hi)/\adS a b s≠[]/\(adS a b s).length<=64:=by
 refine⟨λn hn=>?_,λe=>?_,?_⟩
 ·have:=(aqG hs).mp hn;omega
 ·have:a∈adS a b s:=(aqG hs).mpr ⟨aS _,hab,by rw[Int.sub_self];rfl⟩;rw[e] at this;cases this
 ·rw[acY,aR,cJ,alP hs,if_pos hab];have:=Int.ediv_le_self (a:=b-a) s ⋯;omega
theorem aE9(a:Int):adS a a 1=[a]:=by
 rw[acY,alP (by decide),if_pos (aS a),Int.sub_self];show [a+((0:Nat):Int)*1]=[a];simp
theorem i1{lo hi a:Int}(h0:0<=lo)(h1:lo<=a)(h2:a<=hi)(h3:hi<=63):aeK lo hi (num a.toNat) [a]:=by
 have ha:a.toNat<100:=⋯;have e:=ayI (lo:=lo) (hi:=hi) ha ⋯ ⋯;rw[bK ⋯] at e;have c:=aeF ha;have r:=ai4 (a:=a) (b:=a) (s:=1) (lo:=lo) (hi:=hi) ⋯ ⋯ ⋯ (by decide) h1 h2;have e2:=am5 (abL ha (by decide)) e;unfold alC at e2;rw[aE9] at e2 r;exact⟨e2,⟨c.1,c.2.1,by have:=c.2.2;omega⟩,r⟩
theorem i2{lo hi a b:Int}(h0:0<=lo)(h1:lo<=a)(h2:a<=b)(h4:b<=hi)(h3:hi<=63):aeK lo hi (num a.toNat++45::num b.toNat) (adS a b 1):=by
 have ha:a.toNat<100:=⋯;have hb:b.toNat<100:=⋯;have e:=ax5 (lo:=lo) (hi:=hi) ha hb ⋯ ⋯ ⋯;rw[bK ⋯,bK ⋯] at e;have ca:=aeF ha;have cb:=aeF hb;exact⟨am5 (adT (abL ha (by decide)) (abL hb (by decide)) (by decide)) e,arA ⟨ca.1,ca.2.1,by have:=ca.2.2;omega⟩ ⟨cb.1,cb.2.2⟩ (by decide) (by decide),ai4 ⋯ ⋯ h2 (by decide) h1 h4⟩
theorem i0{lo hi:Int}(h0:0<=lo)(h1:lo<=hi)(h3:hi<=63):aeK lo hi [42] (adS lo hi 1):=
 ⟨am5 (by decide) auN,by decide,ai4 h0 h3 h1 (by decide) (aS _) (aS _)⟩
theorem i3{lo hi s:Int}(h0:0<=lo)(h1:lo<=hi)(h3:hi<=63)(hs:1<=s/\s<=99):aeK lo hi ([42]++47::num s.toNat) (adS lo hi s):=by
 have hs':s.toNat<100:=⋯;have e:=amI (show 47∉[42] by decide) (auN (lo:=lo) (hi:=hi)) hs' ⋯;rw[if_neg (by decide),bK ⋯] at e;have cs:=aeF hs';exact⟨e,arA (by decide) ⟨cs.1,cs.2.2⟩ (by decide) (by decide),ai4 h0 h3 h1 ⋯ (aS _) (aS _)⟩
theorem i4{lo hi a s:Int}(h0:0<=lo)(h1:lo<=a)(h2:a<=hi)(h3:hi<=63)(hs:1<=s/\s<=99):aeK lo hi (num a.toNat++47::num s.toNat) (adS a hi s):=by
 have ha:a.toNat<100:=⋯;have hs':s.toNat<100:=⋯;have e1:=ayI (lo:=lo) (hi:=hi) ha ⋯ ⋯;have e:=amI (abL ha (by decide)) e1 hs' ⋯;rw[if_pos (ajS _ ha).1,bK ⋯,bK ⋯] at e;have ca:=aeF ha;have cs:=aeF hs';exact⟨e,arA ⟨ca.1,ca.2.1,by have:=ca.2.2;omega⟩ ⟨cs.1,cs.2.2⟩ (by decide) (by decide),ai4 ⋯ h3 h2 ⋯ h1 (aS _)⟩
theorem i5{lo hi a b s:Int}(h0:0<=lo)(h1:lo<=a)(h2:a<=b)(h4:b<=hi)(h3:hi<=63)(hs:1<=s/\s<=99):aeK lo hi ((num a.toNat++45::num b.toNat)++47::num s.toNat) (adS a b s):=by
 have ha:a.toNat<100:=⋯;have hb:b.toNat<100:=⋯;have hs':s.toNat<100:=⋯;have e1:=ax5 (lo:=lo) (hi:=hi) ha hb ⋯ ⋯ ⋯;have e:=amI (adT (abL ha (by decide)) (abL hb (by decide)) (by decide)) e1 hs' ⋯;rw[if_neg (by rw[aKQ (c:=45) (by simp) (by decide)];exact a8),bK ⋯,bK ⋯,bK ⋯] at e;have ca:=aeF ha;have cb:=aeF hb;have cs:=aeF hs';refine⟨e,arA ⟨⟨adT ca.1.1 cb.1.1 (by decide),adT ca.1.2 cb.1.2 (by decide)⟩,by simp,?_⟩ ⟨cs.1,cs.2.2⟩ (by decide) (by decide),ai4 ⋯ ⋯ h2 ⋯ h1 h4⟩
 have:=ca.2.2;have:=cb.2.2;rw[aY,bZ];omega
theorem aH5:∀{zs:List Int},zs.Pairwise (·<·)->(∀z∈zs,0<=z)->∀i,0<=agE zs/\tb (agE zs) i=zs.any λz=>decide (z.toNat=i):=by
 intro zs hp hn i;have key:∀(n:Nat) (ys:List Int),ys.length=n->ys.Pairwise (·<·)->(∀z∈ys,0<=z)->agE ys=aaG ys:=by
  intro n;induction n with
  |zero=>intro ys h _ _;rw[List.length_eq_zero_iff.mp h];rfl
  |succ n ih=>
   intro ys hl hp hn;rcases List.eq_nil_or_concat ys with rfl | ⟨r,z,rfl⟩
   ·cases hl
   rw[List.concat_eq_append] at hl hp hn ⊢;have hpa:=List.pairwise_append.mp hp;have er:=ih r (by rw[aY,bX] at hl;omega) hpa.1 λx hx=>hn x (dZ _ hx);have hz:=hn z (cD _ (bJ.mpr rfl));have hb:tb (aaG r) z.toNat=false:=by
    rw[abA,dC];intro x hx;have h1:=hpa.2.2 x hx z (bJ.mpr rfl);have h2:=hn x (dZ _ hx);have:¬x.toNat=z.toNat:=⋯;simpa using this
   have e1:agE (r++[z])=agE r+1*2^z.toNat:=by unfold agE;rw[bB,List.sum_append];show _+(1*2^z.toNat+0)=_;omega
   have hnn:=aa9 r;have hp2:=bN (aaN z.toNat);rw[e1,er,amV];refine abR ⋯ (aj6 hnn ⋯) λj=>?_;have e3:(1*2^z.toNat:Int)=2^z.toNat:=⋯;have hz0:Builtin.bitAnd (aaG r) (2^z.toNat)=0:=by
    refine abR (aiU hnn hp2) (aS 0) λk=>?_;rw[adQ hnn hp2,arG,aaQ];by_cases c:z.toNat=k
    ·subst c;rw[hb];rfl
    ·simp[c]
   have ea:aaG r+2^z.toNat=Builtin.bitOr (aaG r) (2^z.toNat):=by rw[bitOr_and,hz0];omega
   rw[e3,ea]
 rw[key _ zs rfl hp hn];exact⟨aa9 _,abA _ _⟩
theorem aeJ{m:Int}(h:0<=m)(i:Nat):0<=wk7 m/\tb (wk7 m) i=((tb m i||tb m (7+i))&&decide (i<7)):=by
 have h1:(0:Int)<=m / 2^(7:Int).toNat:=dW h (by decide);unfold wk7;refine⟨aiU (aj6 h h1) (by decide),?_⟩;rw[adQ (aj6 h h1) (by decide),apH h h1,ad6 h];have e:tb 127 i=decide (i<7):=axB 7 i;rw[e];rfl
theorem atA{ms:List Int}(h:∀m∈ms,0<=m):orM ms=0↔∀m∈ms,m=0:=by
 constructor
 ·intro e m hm;refine abR (h m hm) (aS 0) λi=>?_;have z:=ab5 h i;rw[e,aaQ] at z;have:=dC.mp z.symm m hm;rw[aaQ];simpa using this
 ·intro e;refine abR (acO h) (aS 0) λi=>?_;rw[ab5 h,aaQ,dC];intro m hm;rw[e m hm,aaQ];exact a8
theorem aCW{ms:List Int}(h:∀m∈ms,0<=m):wk7 (orM ms)=orM (ms.map wk7):=by
 have h':∀m∈ms.map wk7,0<=m:=λm hm=>by
  obtain⟨z,hz,rfl⟩:=bD.mp hm;exact (aeJ (h z hz) 0).1
 refine abR (aeJ (acO h) 0).1 (acO h') λi=>?_;rw[(aeJ (acO h) i).2,ab5 h,ab5 h,ab5 h',List.any_map,c8];simp only[bH,cW,cN,fB,Function.comp];constructor
 ·rintro⟨⟨m,hm,e⟩ | ⟨m,hm,e⟩,hi⟩
  ·exact⟨m,hm,by rw[(aeJ (h m hm) i).2,e,eZ hi];rfl⟩
  ·exact⟨m,hm,by rw[(aeJ (h m hm) i).2,e,eZ hi,Bool.or_true];rfl⟩
 ·rintro⟨m,hm,e⟩;rw[(aeJ (h m hm) i).2,bH,cW,fB] at e;rcases e with ⟨e | e,hi⟩
  ·exact⟨.inl ⟨m,hm,e⟩,hi⟩
  ·exact⟨.inr ⟨m,hm,e⟩,hi⟩
theorem aHJ{m:Int}(h0:0<m)(h1:m<=255):wk7 m≠0/\0<=wk7 m/\wk7 m<=127:=by
 have all:∀n:Nat,n<256->0<n->wk7 (n:Int)≠0/\0<=wk7 (n:Int)/\wk7 (n:Int)<=127:=by decide +kernel
 have e:m=((m.toNat:Nat):Int):=⋯;rw[e];exact all m.toNat ⋯ ⋯
def SpT(b:Bool)(t:List Nat):Mk->Prop
 |.num m=>b=false/\aaL 1 31 t=some m/\0<m
 |.wkd m=>b=true/\∃M,aaL 0 7 t=some M/\(0<M/\M<=255)/\m=wk7 M
 |.nil=>False
 |k=>aaL (if b=true then 0 else 1) (if b=true then 7 else 31) t=none/\rdM b t=some k
theorem aBI:SpT false [76] (.lst 0)/\Cl [76]:=by
 refine⟨⟨?_,?_⟩,by decide⟩<;>decide +kernel
theorem aBW:SpT false [76,87] .wrk/\Cl [76,87]:=by
 refine⟨⟨?_,?_⟩,by decide⟩<;>decide +kernel
theorem aJ7:∀n:Nat,n<31->1<=n->(aaL 1 31 ([76,45]++num n)=none/\rdM false ([76,45]++num n)=some (.lst n))/\Cl ([76,45]++num n):=by decide +kernel
theorem aJX:∀n:Nat,n<32->1<=n->(aaL 1 31 (num n++[87])=none/\rdM false (num n++[87])=some (.nea n))/\Cl (num n++[87]):=by decide +kernel
theorem aU2:∀n:Nat,n<8->(aaL 0 7 (num n++[76])=none/\rdM true (num n++[76])=some (.one ((n:Int)%7)))/\Cl (num n++[76]):=by decide +kernel
theorem aHH:∀n:Nat,n<8->∀m:Nat,m<6->1<=m->(aaL 0 7 (num n++[35]++num m)=none/\rdM true (num n++[35]++num m)=some (.nth ((n:Int)%7) m))/\Cl (num n++[35]++num m):=by decide +kernel
theorem ajU{ns:List Int}(h:ns≠[])(hn:∀n∈ns,0<=n):0<aaG ns:=by
 have h0:=aa9 ns;rcases Int.lt_or_eq_of_le h0 with h1 | h1
 ·exact h1
 ·cases ns with
  |nil=>exact absurd rfl h
  |cons n r=>
   have z:=abA (n::r) n.toNat;rw[←h1,aaQ,bQ] at z;simp at z
theorem al6{ns:List Int}{n:Nat}(hn:∀z∈ns,0<=z/\z<(n:Int)):aaG ns<2^n:=by
 have e:aaG ns=mk_ (tb (aaG ns)) n:=by
  refine abR (aa9 _) (aCF _ _) λi=>?_;rw[aAO];by_cases c:i<n
  ·rw[eZ c,cY]
  ·rw[fC c,cZ,abA,dC];intro z hz;have:=hn z hz;have:¬z.toNat=i:=⋯;simpa using this
 rw[e];exact aG7 _ _
end KM
namespace L2
open PySem PySem.Spec PyProof.Rows PySem.SeqAt
section
variable{X:Cx}
structure IsC(K:FG)(C:Addr):Prop where
 ha:PySem.W.findIn K (.ref C) "__class__"=some (some (.builtin "object.__class__"))
 hn:PySem.W.specialIn K (.builtin "object.__class__") "__get__"=some (some (.builtin "getset_descriptor.__get__"))
 htk:PySem.W.takesIn K (.builtin "object.__class__")=some true
 hm:PySem.W.mroIn K C (.type "object")=some true
theorem IsC.ty{K:FG}{C a dx:Addr}{H:Hp}{fs:List (Str×V)}(i:IsC K C)(c:Cls K C)(h:H a=some (.ins C dx fs)):TyOf K H (.ref a) (.ref C):=.ins h c i.ha i.hn i.htk i.hm
end
end L2
namespace KM
open PySem PySem.Spec PyProof.Rows L2
def TpAt(b:Bool)(H:Hp)(u:Addr)(k:Mk):Prop:=H u=some (.tup k.tup)/\k.sp=true/\k.wk=b/\k.ok
theorem TpAt.keep{b:Bool}{H H':Hp}(s:Keep H H'){u:Addr}{k:Mk}(h:TpAt b H u k):TpAt b H' u k:=⟨s.tup h.1,h.2⟩
theorem Ft.keepT{b:Bool}{H H':Hp}(s:Keep H H'){ps:List Addr}{ks:List Mk}(h:Ft (TpAt b H) ps ks):Ft (TpAt b H') ps ks:=Paired.imp' (λ_ _ z=>z.keep s) h
noncomputable def Mk.pl:Mk->Option Int
 |.num m=>some m
 |.wkd m=>some m
 |_=>none
noncomputable def plK(ks:List Mk):List Int:=ks.filterMap Mk.pl
noncomputable def otK(ks:List Mk):List Mk:=ks.filter λk=>k.pl.isNone
noncomputable def auW(b:Bool)(M:Int):List Mk:=if M=0 then [] else if b=true then [.wkd M] else [.num M]
noncomputable def at5(b:Bool)(ks:List Mk):List Mk:=auW b (orM (plK ks))++otK ks
theorem aHT{b:Bool}{ks:List Mk}(h:∀k∈ks,k.sp=true/\k.wk=b/\k.ok):∀m∈plK ks,0<=m/\(b=true->m<=127):=by
 intro m hm;obtain⟨k,hk,e⟩:=List.mem_filterMap.mp hm;have:=h k hk;cases k with
 |num z=>cases e;exact⟨this.2.2,λhb=>by rw[←this.2.1] at hb;cases hb⟩
 |wkd z=>cases e;exact⟨this.2.2.1,λ_=>this.2.2.2⟩
 |lst z=>cases e
 |nea z=>cases e
 |wrk=>cases e
 |nth z y=>cases e
 |one z=>cases e
 |nil=>cases e
theorem avD{ms:List Int}{n:Nat}(h:∀m∈ms,0<=m/\m<2^n):orM ms<2^n:=by
 have h0:∀m∈ms,0<=m:=λm hm=>(h m hm).1;have e:orM ms=mk_ (tb (orM ms)) n:=by
  refine abR (acO h0) (aCF _ _) λi=>?_;rw[aAO];by_cases c:i<n
  ·rw[eZ c,cY]
  ·rw[fC c,cZ,ab5 h0,dC];intro m hm;rw[adI (h m hm).2 ⋯];exact a8
 rw[e];exact aG7 _ _
theorem aGN{b:Bool}{ks:List Mk}(h:∀k∈ks,k.sp=true/\k.wk=b/\k.ok):∀k∈auW b (orM (plK ks)),k.sp=true/\k.wk=b/\k.ok:=by
 have hp:=aHT h;have h0:0<=orM (plK ks):=acO λm hm=>(hp m hm).1;intro k hk;unfold auW at hk;split at hk
 ·cases hk
 ·split at hk
  ·rename_i hb;rw[bJ.mp hk,hb];have e:(2:Int)^7=128:=by decide
   have:=avD (n:=7) (ms:=plK ks) λm hm=>⟨(hp m hm).1,by have:=(hp m hm).2 hb;omega⟩;exact⟨rfl,rfl,h0,⋯⟩
  ·rename_i hb;rw[bJ.mp hk];exact⟨rfl,by cases b with | true=>exact absurd rfl hb | false=>rfl,h0⟩
abbrev Ws(b:Bool):List (List Nat)->List Mk->Prop:=Paired λw k=>Cl w/\SpT b w k
noncomputable def lo_(b:Bool):Int:=if b=true then 0 else 1
noncomputable def hi_(b:Bool):Int:=if b=true then 7 else 31
theorem aw7(k:Mk)(ks:List Mk):plK (k::ks)=(match k.pl with | some m=>m::plK ks | none=>plK ks)/\otK (k::ks)=(match k.pl with | some _=>otK ks | none=>k::otK ks):=by
 unfold plK otK;rw[dN,List.filter_cons];cases k.pl<;>exact⟨rfl,rfl⟩
theorem aFR(b:Bool)(lo hi:Int)(w:List Nat)(ws:List (List Nat)):plP lo hi (w::ws)=(match aaL lo hi w with | some m=>m::plP lo hi ws | none=>plP lo hi ws)/\mkP b lo hi (w::ws)=(match aaL lo hi w with | some _=>mkP b lo hi ws | none=>match rdM b w with | some k=>k::mkP b lo hi ws | none=>mkP b lo hi ws):=by
 unfold plP mkP;rw[dN,dN];cases aaL lo hi w with
 |some m=>exact⟨rfl,rfl⟩
 |none=>exact⟨rfl,by cases rdM b w<;>rfl⟩
def WsI(b:Bool)(ws:List (List Nat))(ks:List Mk):Prop:=mkP b (lo_ b) (hi_ b) ws=otK ks/\plK ks=(plP (lo_ b) (hi_ b) ws).map (λm=>if b=true then wk7 m else m)/\(∀m∈plP (lo_ b) (hi_ b) ws,0<m/\(b=true->m<=255))/\∀w∈ws,(aaL (lo_ b) (hi_ b) w).isSome=true∨(rdM b w).isSome=true
theorem aBD(b:Bool):∀{ws:List (List Nat)} {ks:List Mk},Ws b ws ks->WsI b ws ks
 |_,_,.nil=>⟨rfl,rfl,λm hm=>(nomatch hm),λw hw=>(nomatch hw)⟩
 |w::ws,k::ks,.cons r t=>by
  obtain⟨i1,i2,i3,i4⟩:=aBD b t;have c1:=aw7 k ks;have c2:=aFR b (lo_ b) (hi_ b) w ws;have plain:∀(m M:Int),k.pl=some m->aaL (lo_ b) (hi_ b) w=some M->(m=if b=true then wk7 M else M)->(0<M/\(b=true->M<=255))->WsI b (w::ws) (k::ks):=λm M e1 e2 e3 e4=>by
   unfold WsI;rw[e1] at c1;rw[e2] at c2;rw[c1.1,c1.2,c2.1,c2.2];refine⟨i1,by rw[bG,←e3,←i2],λz hz=>?_,λv hv=>?_⟩
   ·rcases aX.mp hz with rfl | hz
    ·exact e4
    ·exact i3 z hz
   ·rcases aX.mp hv with rfl | hv
    ·exact .inl (by rw[e2];rfl)
    ·exact i4 v hv
  have mark:k.pl=none->aaL (lo_ b) (hi_ b) w=none->rdM b w=some k->WsI b (w::ws) (k::ks):=λe1 e2 e3=>by
   unfold WsI;rw[e1] at c1;rw[e2,e3] at c2;rw[c1.1,c1.2,c2.1,c2.2];refine⟨by rw[i1],i2,i3,λv hv=>?_⟩;rcases aX.mp hv with rfl | hv
   ·exact .inr (by rw[e3];rfl)
   ·exact i4 v hv
  cases k with
  |num m=>
   obtain⟨_,hb,hr,h0⟩:=r;subst hb;exact plain m m rfl hr rfl ⟨h0,λz=>nomatch z⟩
  |wkd m=>
   obtain⟨_,hb,M,hr,h0,hm⟩:=r;subst hb;exact plain m M rfl hr hm ⟨h0.1,λ_=>h0.2⟩
  |lst z=>exact mark rfl r.2.1 r.2.2
  |nea z=>exact mark rfl r.2.1 r.2.2
  |wrk=>exact mark rfl r.2.1 r.2.2
  |nth z y=>exact mark rfl r.2.1 r.2.2
  |one z=>exact mark rfl r.2.1 r.2.2
  |nil=>exact r.2.elim
theorem aAS{b:Bool}{ws:List (List Nat)}{ks:List Mk}{l:List Nat}(h:Ws b ws ks)(hl:spl 44 l=ws):amR b (lo_ b) (hi_ b) l=at5 b ks:=by
 obtain⟨i1,i2,i3,_⟩:=aBD b h;have hz:∀m∈plP (lo_ b) (hi_ b) ws,0<=m:=λm hm=>bN (i3 m hm).1;unfold amR at5;rw[hl,i1,i2];congr 1;cases b with
 |false=>
  have e:(plP (lo_ false) (hi_ false) ws).map (λm=>if false=true then wk7 m else m)=plP (lo_ false) (hi_ false) ws:=List.map_id'' (λ_=>rfl) _;rw[e];rfl
 |true=>
  have e:orM ((plP (lo_ true) (hi_ true) ws).map (λm=>if true=true then wk7 m else m))=wk7 (orM (plP (lo_ true) (hi_ true) ws)):=(aCW hz).symm;rw[e];unfold agT auW;by_cases c:orM (plP (lo_ true) (hi_ true) ws)=0
  ·rw[if_pos c,c];rfl
  ·have c2:¬wk7 (orM (plP (lo_ true) (hi_ true) ws))=0:=λz=>c (by
    rw[aCW hz] at z;have h0:∀m∈(plP (lo_ true) (hi_ true) ws).map wk7,0<=m:=λm hm=>by
     obtain⟨y,hy,rfl⟩:=bD.mp hm;exact (aeJ (hz y hy) 0).1
    rw[atA hz];intro m hm;have:=(atA h0).mp z (wk7 m) (bD.mpr ⟨m,hm,rfl⟩);exact absurd this (aHJ (i3 m hm).1 ((i3 m hm).2 rfl)).1)
   rw[if_neg c,if_neg c2];rfl
theorem none_of{H H':Hp}(s:Same H H'){p:Addr}(h:H' p=none):H p=none:=by
 cases e:H p with
 |none=>rfl
 |some o=>rw[s _ _ e] at h;cases h
theorem ad3:∀(ws:List (List Nat)),(∀w∈ws,w.length<=8)->(aaY 44 ws).length<=9*ws.length
 |[],_=>bM _
 |[w],h=>by
  have:=h w (bE ..);show w.length<=9;omega
 |w::v::ws,h=>by
  have ih:=ad3 (v::ws) λz hz=>h z (bF _ hz);have:=h w (bE ..);show (w++44::aaY 44 (v::ws)).length<=_;rw[aY,bZ,bZ];omega
theorem Ws.cl{b:Bool}:∀{ws:List (List Nat)} {ks:List Mk},Ws b ws ks->∀w∈ws,Cl w
 |_,_,.nil,w,hw=>nomatch hw
 |_,_,.cons r t,w,hw=>by
  rcases aX.mp hw with rfl | hw
  ·exact r.1
  ·exact Ws.cl t w hw
theorem aG2{b:Bool}{ws:List (List Nat)}{ks:List Mk}(h:Ws b ws ks)(hne:ws≠[])(hn:ws.length<=20):spl 44 (aaY 44 ws)=ws/\ItemsOk b (lo_ b) (hi_ b) (aaY 44 ws):=by
 have hs:=afH 44 ws hne λw hw=>(h.cl w hw).1.1;have hl:=ad3 ws λw hw=>(h.cl w hw).2.2;refine⟨hs,⋯,by rw[hs];omega,?_,?_⟩
 ·rw[hs];exact (aBD b h).2.2.2
 ·rw[hs];exact bL (List.length_filterMap_le ..) hn
def PrT(H:Hp)(ts:List Addr)(prs:List (Nat×Nat)):Prop:=Paired (λ(t:Addr) (pr:Nat×Nat)=>H t=some (.tup [.int pr.1,.int pr.2])) ts prs
theorem PrT.keep{H H':Hp}{ts:List Addr}{prs:List (Nat×Nat)}(h:PrT H ts prs)(k:Keep H H'):PrT H' ts prs:=Paired.mapP h λ_ _ z=>k.tup z
theorem Paired.at{α β:Type}{F:α->β->Prop}:∀{l:List α} {r:List β} {i:Nat} {a:α},Paired F l r->l[i]? =some a->∃b,r[i]? =some b/\F a b
 |_,_,_,_,.nil,e=>by simp at e
 |_,_,0,_,.cons h _,e=>by
  have:=aZ e;subst this;exact⟨(),h⟩
 |_,_,i+1,_,.cons _ t,e=>Paired.at (i:=i) t e
noncomputable def rt(x:Nat×Nat):List Nat:=if x.1=x.2 then num x.1 else num x.1++45::num x.2
noncomputable def Dd(b:Bool)(m l f:Int):Int:=if b=true then wkD m l f else ahF m l
theorem awX{m f:Int}(h:0<=m)(n:Nat):aC2 m f n=tb m ((f+(1+(n:Int))-1)%7).toNat:=by
 unfold aC2;by_cases c:tb m ((f+(1+(n:Int))-1)%7).toNat=true
 ·rw[c];exact eZ ((af4 h _).mpr c)
 ·have c':tb m ((f+(1+(n:Int))-1)%7).toNat=false:=by simpa using c
  rw[c'];exact fC λq=>c ((af4 h _).mp q)
theorem wkN_mem{m f z:Int}:∀{n:Nat},z∈wkN m f n↔∃j,j<n/\aC2 m f j=true/\z=1+(j:Int)
 |0=>⟨λh=>(nomatch h),λ⟨j,h,_⟩=>absurd h (dB j)⟩
 |n+1=>by
  show z∈wkN m f n++(if aC2 m f n=true then [1+(n:Int)] else [])↔_;rw[bO,wkN_mem];constructor
  ·rintro (⟨j,h1,h2,h3⟩ | h)
   ·exact⟨j,dA h1,h2,h3⟩
   ·split at h
    ·rename_i c;exact⟨n,dD n,c,bJ.mp h⟩
    ·cases h
  ·rintro⟨j,h1,h2,h3⟩;by_cases c:j=n
   ·subst c;rw[if_pos h2];exact .inr (bJ.mpr h3)
   ·exact .inl ⟨j,⋯,h2,h3⟩
theorem apR{m l f:Int}(h0:0<=m)(h1:m<=127)(h:Lf l f)(i:Nat):tb (wkD m l f) i=(decide (1<=i)&&(decide ((i:Int)<=l)&&tb m ((f+(i:Int)-1)%7).toNat)):=by
 have hw:=aD3 m (aBE h0 h1) l (adG h.1.1 h.1.2) f (adH h.2.1 h.2.2);obtain⟨_,hp,hn⟩:=aKO hw.2;rw[hw.1,(aH5 hp (λz hz=>(hn z hz).1) i).2,c8,cN];simp only[bH,fB];have hl:=h.1.1;constructor
 ·rintro⟨z,hz,e⟩;obtain⟨j,j1,j2,j3⟩:=wkN_mem.mp hz;rw[awX h0] at j2;have:i=1+j:=⋯;subst this;exact⟨⋯,⋯,j2⟩
 ·rintro⟨i1,i2,i3⟩;refine⟨(i:Int),wkN_mem.mpr ⟨i-1,⋯,?_,⋯⟩,⋯⟩;rw[awX h0,show (1+((i-1:Nat):Int))=(i:Int) by omega];exact i3
theorem ayH{m l:Int}(h0:0<=m)(hl:28<=l/\l<=31)(i:Nat):tb (ahF m l) i=(tb m i&&tb (2*2^l.toNat-2) i):=by
 have hp:=aaN l.toNat;exact adQ h0 ⋯ i
theorem ap1{α:Type}(l:List α)(p:α->Bool)(c:Bool):(l.any λx=>c&&p x)=(c&&l.any p):=by
 induction l with
 |nil=>rw[List.any_nil,List.any_nil,cM]
 |cons x r ih=>rw[bQ,bQ,ih,Bool.and_or_distrib_left]
theorem aiJ{α:Type}{p q:α->Bool}:∀{l:List α},(∀x∈l,p x=q x)->l.any p=l.any q
 |[],_=>rfl
 |x::r,h=>by rw[bQ,bQ,h x (bE ..),aiJ λy hy=>h y (bF _ hy)]
theorem aHS{b:Bool}{ms:List Int}{l f:Int}(hm:∀m∈ms,0<=m/\(b=true->m<=127))(h:Lf l f)(i:Nat):tb (Dd b (orM ms) l f) i=ms.any λm=>tb (Dd b m l f) i:=by
 have h0:∀m∈ms,0<=m:=λm hz=>(hm m hz).1;cases b with
 |false=>
  show tb (ahF (orM ms) l) i=ms.any λm=>tb (ahF m l) i;rw[ayH (acO h0) h.1,ab5 h0,Bool.and_comm,←ap1];exact aiJ λm hz=>by rw[ayH (h0 m hz) h.1,Bool.and_comm]
 |true=>
  have e:(2:Int)^7=128:=by decide
  have hM:orM ms<=127:=by
   have:=avD (n:=7) (ms:=ms) λm hz=>⟨h0 m hz,by have:=(hm m hz).2 rfl;omega⟩;omega
  show tb (wkD (orM ms) l f) i=ms.any λm=>tb (wkD m l f) i;rw[apR (acO h0) hM h,ab5 h0,←ap1,←ap1];exact aiJ λm hz=>by rw[apR (h0 m hz) ((hm m hz).2 rfl) h]
theorem aIH{b:Bool}{k:Mk}{m:Int}(hp:k.pl=some m)(hw:k.wk=b)(l f:Int):k.due l f=Dd b m l f:=by
 cases k with
 |num z=>cases hp;cases hw;rfl
 |wkd z=>cases hp;cases hw;rfl
 |lst z=>cases hp
 |nea z=>cases hp
 |wrk=>cases hp
 |nth z y=>cases hp
 |one z=>cases hp
 |nil=>cases hp
theorem aoI{b:Bool}(l f:Int)(i:Nat):∀{ks:List Mk},(∀k∈ks,k.wk=b)->(ks.any λk=>tb (k.due l f) i)=((plK ks).any (λm=>tb (Dd b m l f) i)||(otK ks).any λk=>tb (k.due l f) i)
 |[],_=>rfl
 |k::ks,h=>by
  have ih:=aoI l f i (ks:=ks) λz hz=>h z (bF _ hz);have c:=aw7 k ks;have hk:=h k (bE ..);rw[bQ,ih];cases e:k.pl with
  |some m=>
   rw[e] at c;rw[c.1,c.2,bQ,aIH e hk,Bool.or_assoc]
  |none=>
   rw[e] at c;rw[c.1,c.2,bQ];cases tb (k.due l f) i<;>cases (plK ks).any _<;>rfl
theorem amD{b:Bool}{ks:List Mk}(h:∀k∈ks,k.sp=true/\k.wk=b/\k.ok):∀k∈at5 b ks,k.sp=true/\k.wk=b/\k.ok:=λk hk=>by
 rcases bO.mp hk with z | z
 ·exact aGN h k z
 ·exact h k ((List.mem_filter.mp z).1)
theorem aBC{b:Bool}{ks:List Mk}{l f:Int}(h:∀k∈ks,k.sp=true/\k.wk=b/\k.ok)(hlf:Lf l f):orK (at5 b ks) l f=orK ks l f:=by
 refine aI9 hlf (λk hk=>(amD h k hk).2.2) (λk hk=>(h k hk).2.2) λi=>?_;have hp:=aHT h;rw[aoI l f i λk hk=>(h k hk).2.1,←aHS hp hlf i];unfold at5;rw[List.any_append];congr 1;unfold auW;by_cases c:orM (plK ks)=0
 ·rw[if_pos c,c];have:=aHS (b:=b) (ms:=[]) (λm hm=>nomatch hm) hlf i;rw[show orM []=0 from rfl] at this;rw[this];rfl
 ·rw[if_neg c];cases b with
  |true=>show (tb (wkD _ l f) i||false)=_;rw[Bool.or_false];rfl
  |false=>show (tb (ahF _ l) i||false)=_;rw[Bool.or_false];rfl
end KM
namespace L2
open PySem PySem.Spec PyProof.Rows
section
variable{X:Cx}{f:Addr}{k k':Nat}{ps:List Str}{sp:Sp}{x y e:Expr}{es:List Expr}{t:TA}{tv:TE}{p pos:Pos}
variable{C:Addr}{m:Str}{o:Expr}{ta:TE}{apos:Pos}
end
section
variable{X:Cx}{body:List Stmt}{tb:TS}{h:ExceptHandler}{hs:List ExceptHandler}{pos:Pos}
theorem aU3(hb:Ss X.nox body tb):S X (.Try body (h::hs) [] [] pos) tb:=by
 refine⟨λpins s σ H D I hw=>?_⟩;refine wpAny_Try_except (eQ (hb.h pins s σ H D (I.wish _) hw) (λf s1 q=>?_) λe s1 hx=>False.elim hx);cases f with
 |next=>exact wpAny_execs_nil q.unwish
 |ret v=>exact q.unwish
 |brk=>exact q.unwish
 |cont=>exact q.unwish
end
section
variable{js:List Nat}{σ:St}{tt:TT}{te:TE}{Q:VK}{H1:Hp}
theorem awL{K K':FG}{a:Addr}{xs:List V}(R:Addr->Nat->List V->Hp->Prop)(hm:∀D i l H l',R D i l H->R D i l (upd H D (.lst l')))(hS:∀D i l H H',Same H H'->R D i l H->R D i l H')(hn:xs.length<=sizeLine)(h0:∀D,H1 D=none->R D 0 [] H1)(hq:SqL K H1 a xs)
  (hs:∀(i:Nat) (x:V) (l:List V) (D:Addr) (H2:Hp) (E:V->Hp->Prop) (F:Hp->Prop),xs[i]? =some x->R D i l H2->H1 D=none->Same H1 H2->H2 D=some (.lst l)->(∀y H5,Same H2 H5->R D (i+1) (l++[y]) H5->E y H5)->(∀H4,Same H2 H4->R D (i+1) l H4->F H4)->
   tt (some (.int i)::some x::ab1 js σ) H2 λb H4=>if b=true then te (some (.int i)::some x::ab1 js σ) H4 E else F H4)
  (hd:∀(D:Addr) (H2:Hp) (l:List V),R D xs.length l H2->H1 D=none->Same H1 H2->H2 D=some (.lst l)->Q (.ref D) H2):
  awQ (Ite K a) 2 js (aF5 K' 2 (ayC (ab8 0) (ayC (ab8 1) aJ0))) σ tt te Q H1:=by
 intro D hD;refine⟨λi m H2=>m=xs.length-i/\i<=xs.length/\Same H1 H2/\∃l,H2 D=some (.lst l)/\l.length<=i/\R D i l H2,⟨xs.length,by simp,bM _,aaB hD _,[],aaA,aQ _,hm _ _ _ _ _ (h0 D hD)⟩,?_⟩;rintro i m H2 ⟨rfl,hi,s2,l,h2,hll,hR⟩;by_cases hlt:i<xs.length
 ·refine .inr ⟨⟨xs,xs[i],s2.seq hq,by simp[hlt]⟩,λv H3 y τ hτ=>?_⟩;obtain⟨T,rfl,hT,ev⟩:=y;obtain⟨x,hx,rfl⟩:=ev xs (s2.seq hq);have sT:=aaB hT (.tup [.int i,x]);have s3:=s2.trans sT;have h3:=sT _ _ h2;obtain⟨t0,t1,rfl⟩:∃t0 t1,τ=[t0,t1]:=by
   match τ,hτ with
   |[a,b],_=>exact⟨a,b,rfl⟩
  have h:=hs i x l D _ (λy H5=>∃ys,H5 D=some (.lst ys)/\ys.length<sizeLine/\∃m',m'<xs.length-i/\(m'=xs.length-(i+1)/\i+1<=xs.length/\Same H1 (upd H5 D (.lst (ys++[y])))/\∃l,(upd H5 D (.lst (ys++[y]))) D=some (.lst l)/\l.length<=i+1/\R D (i+1) l (upd H5 D (.lst (ys++[y]))))) (λH4=>∃m',m'<xs.length-i/\(m'=xs.length-(i+1)/\i+1<=xs.length/\Same H1 H4/\∃l,H4 D=some (.lst l)/\l.length<=i+1/\R D (i+1) l H4)) hx (hS _ _ _ _ _ sT hR) hD s3 h3
   (λz H5 s5 r5=>by
    refine⟨l,s5 _ _ h3,d9 hll (bA hlt hn),xs.length-(i+1),⋯,rfl,hlt,λb o hb=>?_,l++[z],aaA,by rw[aY,bX];omega,hm _ _ _ _ _ r5⟩;rw[aaD (aaJ hb hD)];exact s5 _ _ (s3 _ _ hb))
   (λH4 s4 r4=>⟨xs.length-(i+1),⋯,rfl,hlt,s3.trans s4,l,s4 _ _ h3,⋯,r4⟩)
  exact⟨T,[.int i,x],rfl,SqT.of aaA,rfl,.int i,[x],rfl,x,[],rfl,rfl,⟨[some (.int i),some x],rfl,rfl⟩,h⟩
 ·have e:i=xs.length:=⋯;subst e;exact .inl ⟨⟨xs,s2.seq hq,rfl⟩,hd D H2 l hR hD s2 h2⟩
end
def KD(K:FG)(a:Addr)(kvs:List (Int×V)):Prop:=
 ∃(es:Array DictEntry) (ep:Nat) (vs:List (Key×Value)),K.lookup a=some ⟨.type "dict",none,.dict es ep,#[]⟩/\KV (kvs.map λx=>((Sum.inl x.1:Key),x.2)) vs/\(vs.map (·.1)).Nodup/\∀(P:Program) (w:World),KeysOf (abK P w) es/\PySem.Pairs (abK P w) es.toList vs
def aKC(K:FG)(td ty:TE):TE:=λσ H Q=>td σ H λx H1=>ty σ H1 λy H2=>∃a kvs k v,x=.ref a/\KD K a kvs/\y=.int k/\kvs.lookup k=some v/\Q v H2
theorem aHE{k:Int}{v:V}:∀{kvs:List (Int×V)} {vs:List (Key×Value)},KV (kvs.map λx=>((Sum.inl x.1:Key),x.2)) vs->kvs.lookup k=some v->∃w',valueAt vs (Sum.inl k:Key)=some w'/\RelV v w'
 |[],_,_,h=>by cases h
 |(k0,v0)::r,_,.cons (b:=(k1,w1)) h t,hl=>by
  obtain⟨e1,e2⟩:=h;have e1:(Sum.inl k0:Key)=k1:=e1;subst e1;rw[dR] at hl;unfold valueAt;by_cases c:k=k0
  ·subst c;rw[show (k==k)=true from beq_self_eq_true k] at hl;cases hl;refine⟨w1,?_,e2⟩;rw[List.find?_cons_of_pos (by simp)];rfl
  ·rw[show (k==k0)=false from beq_false_of_ne c] at hl;obtain⟨w',h1,h2⟩:=aHE t hl;refine⟨w',?_,h2⟩;rw[List.find?_cons_of_neg (by simp;exact λz=>c z.symm)];exact h1
section
variable{X:Cx}{o i:Expr}{td ty:TE}{pos:Pos}
theorem eDgK(ho:E X o td)(hi:E X i ty)(hs:aFW i:=by intro _ _;rfl):E X (.Subscript o i pos) (aKC X.K td ty):=by
 refine⟨λpins s σ H Q I h=>?_⟩;refine axR PySem.F.slot_dict_getitem.lookup hs (thn (ho.h pins s σ H _ I h) λu s1 ⟨x,H1,I1,rx,q1⟩=>thn (hi.h pins s1 σ H1 _ I1 q1) λiv s2 ⟨y,H2,I2,ry,a,kvs,k,v,ex,hk,ey,l,q2⟩=>?_);subst ex;subst ey;obtain rfl:u=Value.ref a:=rx;obtain⟨es,ep,vs,lk,kv,nd,kp⟩:=hk;obtain⟨k1,k2⟩:=kp X.prog X.w;have dd:s2.heap.DictOf (abK X.prog X.w) a vs:=⟨_,es,ep,I2.kIn _ _ lk,⟨rfl,rfl,rfl⟩,rfl,k1,k2,nd⟩
 obtain⟨w',hw,rw'⟩:=aHE kv l;exact⟨dd.typeIs,wpAny_getItem_of (auE (k:=Sum.inl k) ry) dd.mapOf hw ⟨v,H2,I2.tok _,rw',q2⟩⟩
end
end L2
namespace KM
open PySem PySem.Spec PyProof.Rows L2
theorem awF{ks:List Mk}{l f:Int}(h:Lf l f)(o:∀k∈ks,k.ok):0<=orK ks l f:=acO λm hm=>by
 obtain⟨k,hk,rfl⟩:=bD.mp hm;exact amA (o k hk) h
def DV(c:Cs)(H:Hp)(v:V):Ko->Prop
 |none=>v=.non
 |some ks=>∃p qs,v=.ref p/\H p=some (.lst (qs.map V.ref))/\Ft (MkAt c H) qs ks/\∀k∈ks,k.ok
theorem DV.keep{c:Cs}{H H':Hp}(s:Same H H'){v:V}:∀{ko:Ko},DV c H v ko->DV c H' v ko
 |none,h=>h
 |some _,⟨p,qs,e,h1,h2,h3⟩=>⟨p,qs,e,s _ _ h1,h2.keepM s.keep,h3⟩
noncomputable def orO(ko:Ko)(a l f:Int):Int:=match ko with
 |none=>a
 |some ks=>Builtin.bitOr a (orK ks l f)
noncomputable def aaO(kd kw:Ko)(l f:Int):Int:=if kd.isNone=true/\kw.isNone=true then 2*2^l.toNat-2 else orO kw (orO kd 0 l f) l f
def DT(b:Bool)(t:List Nat)(ko:Ko):Prop:=(32∉t/\t≠[])/\ItemsOk b (lo_ b) (hi_ b) t/\match ko with
 |none=>t=[42]
 |some ks=>t≠[42]/\(∀k∈ks,k.sp=true/\k.wk=b/\k.ok)/\amR b (lo_ b) (hi_ b) t=at5 b ks
noncomputable def gO(b:Bool):Ko->Ko
 |none=>none
 |some ks=>some (at5 b ks)
theorem aHC{b:Bool}{t:List Nat}{ko:Ko}(h:DT b t ko){a l f:Int}(hl:Lf l f):orO (gO b ko) a l f=orO ko a l f:=by
 cases ko with
 |none=>rfl
 |some ks=>
  show Builtin.bitOr a (orK (at5 b ks) l f)=Builtin.bitOr a (orK ks l f);rw[aBC h.2.2.2.1 hl]
theorem ayG(b:Bool)(ko:Ko):(gO b ko).isNone=ko.isNone:=by cases ko<;>rfl
theorem aw0{t u:List Nat}{kd kw:Ko}(hd:DT false t kd)(hw:DT true u kw){l f:Int}(hl:Lf l f):aaO (gO false kd) (gO true kw) l f=aaO kd kw l f:=by
 unfold aaO;rw[ayG,ayG,aHC hd hl,aHC hw hl]
theorem ajJ{c d:Nat}(hcd:c≠d):∀{ws:List (List Nat)},(∀w∈ws,c∉w)->c∉aaY d ws
 |[],_=>cF
 |[w],h=>h w (bE ..)
 |w::v::ws,h=>by
  show c∉w++d::aaY d (v::ws);rw[bO,aX,not_or,not_or];exact⟨h w (bE ..),hcd,ajJ hcd λz hz=>h z (bF _ hz)⟩
theorem awY:∀{ws:List (List Nat)},ws≠[]->(∀w∈ws,w≠[])->∀d,aaY d ws≠[]
 |[],h,_,_=>absurd rfl h
 |[w],_,h,_=>h w (bE ..)
 |w::v::ws,_,h,d=>λe=>by
  have e:w++d::aaY d (v::ws)=[]:=e;rw[List.append_eq_nil_iff] at e;cases e.2
theorem alQ(b:Bool):DT b [42] none:=by
 refine⟨by decide,?_,rfl⟩;have c:Cl [42]/\SpT b [42] (if b=true then .wkd 127 else .num 4294967294):=by
  cases b with
  |true=>exact⟨by decide,rfl,255,by decide +kernel,by decide,by decide +kernel⟩
  |false=>exact⟨by decide,rfl,by decide +kernel,by decide⟩
 exact (aG2 (.cons c .nil:Ws b [[42]] _) (dY _ _) (by show 1<=20;decide)).2
structure FT(lo hi:Int)(t:List Nat)(m:Int):Prop where
 ok:aw4 lo hi t
 len:t.length<=300
 is:orM (ad8 lo hi t)=m
 sp:32∉t
 ne:t≠[]
 nn:0<=m
theorem auT{lo hi:Int}{ws:List (List Nat)}{nss:List (List Int)}(h:Paired (aeK lo hi) ws nss)(hne:ws≠[])(hn:ws.length<=20):FT lo hi (aaY 44 ws) (aaG nss.flatten):=by
 have all:∀{ws:List (List Nat)} {nss:List (List Int)},Paired (aeK lo hi) ws nss->(∀w∈ws,Cl w/\(aaL lo hi w).isSome=true)/\(ws.map λw=>(aaL lo hi w).getD 0)=nss.map aaG:=by
  intro ws nss h;induction h with
  |nil=>exact⟨λw hw=>(nomatch hw),rfl⟩
  |cons r t ih=>
   refine⟨λw hw=>?_,?_⟩
   ·rcases aX.mp hw with z | z
    ·subst z;exact⟨r.2.1,by rw[r.1];rfl⟩
    ·exact ih.1 w z
   ·rw[bG,bG,ih.2,r.1];rfl
 have a:=all h;have hs:=afH 44 ws hne λw hw=>(a.1 w hw).1.1.1;have hl:=ad3 ws λw hw=>(a.1 w hw).1.2.2;refine⟨⟨by rw[hs];omega,by rw[hs];exact λw hw=>(a.1 w hw).2⟩,⋯,?_,ajJ (by decide) λx hx=>(a.1 x hx).1.1.2,awY hne (λx hx=>(a.1 x hx).1.2.1) 44,aa9 _⟩;unfold ad8;rw[hs,a.2];have nn:∀m∈nss.map aaG,0<=m:=λm hm=>by
  obtain⟨z,_,rfl⟩:=bD.mp hm;exact aa9 _
 refine abR (acO nn) (aa9 _) λi=>?_;rw[ab5 nn,abA,List.any_map,List.any_flatten];exact aiJ λz _=>abA z i
end KM
namespace L2
open PySem PySem.Spec PyProof.Rows
section
open PySem.W Builtin Builtin.ObjectAttr
variable{prog:Program}{w:World}{A:Around}{E:Value->Shared->Prop}{s:Shared}{K:FG}{x C:Addr}{f:Str}{v:Value}{o:Obj}{vs:Array Value}
end
def PY(e C:Addr)(d:Option Addr)(h:Heap):Prop:=∃(vs:Array Value) (sl:Array (Option Value)),h.get? e=some ⟨.ref C,d,.fields vs,sl⟩/\vs[1]? =some .none/\vs[2]? =some .none/\4<vs.size
noncomputable def xn(a C:Addr)(d:Option Addr):HO:=.ext (PY a C d)
theorem PY.ok{P:Program}{w:World}{H:Hp}{h:Heap}{a C:Addr}{d:Option Addr}(x:PY a C d h):ObjOk P w H h a (xn a C d):=by
 obtain⟨vs,sl,e,r⟩:=id x;exact⟨x,⟨_,e⟩,λh1 h2 ⟨vs,sl,e,r⟩ k=>⟨vs,sl,k _ e,r⟩⟩
section
variable{X:Cx}{pins:List (Addr×Obj)}{σ:St}{H:Hp}{s:Shared}{a C:Addr}{f:Str}
variable{o e value:Expr}{ta tv:TE}{pos pos':Pos}
end
section
open PySem.W
variable{prog:Program}{w:World}{A:Around}{E:Value->Shared->Prop}{s:Shared}{K:FG}{C fI:Addr}
variable{X:Cx}{pins:List (Addr×Obj)}{σ:St}{H:Hp}
variable{env:Env}
end
section
variable{X:Cx}{E:XK}{x:Str}{C:Addr}{e:Expr}{es:List Expr}{t:TA}{np cpos pos:Pos}{k k':Nat}{ps:List Str}{sp:Sp}
end
structure RoomQ(k:Nat)(A:Around):Prop where
 dp:A.depth+3*k+5<recursionLimit
 un:A.units+16*k+200<cLine
theorem Room.q{k:Nat}{A:Around}(r:Room k A):RoomQ k A:=⟨r.dp,r.un⟩
section
variable{P:Program}{w:World}{K:FG}{mg:Str->Option Value}{base:Heap}{N ps:List Str}{qual:Str}{scope:Scope}{f:Addr}{cd:Value}{A:Around}{outer:List Env}{s s1:Shared}{H:Hp}{us:List Value}{vs:List V}
variable{x:Str}{st:Stmt}{k:Nat}{sp:Sp}
variable{X:Cx}{k':Nat}{e:Expr}{es:List Expr}{tA:TA}{p pos:Pos}
end
section
variable{X:Cx}{f:Addr}{k k':Nat}{ps:List Str}{sp:Sp}{x y e:Expr}{es:List Expr}{tA:TA}{tv:TE}{p pos:Pos}{t u:TX}
end
section
variable{M:Model}{A:Around}{E:Value->Shared->Prop}{s:Shared}{f:Obj->Prop}{B:Heap}{env:Env}{outer:List Env}{L e:Addr}{fl:Value}{Q:Unit->Shared->Prop}
end
section
variable{P:Program}{w:World}{K:FG}{mg:Str->Option Value}{base:Heap}{N:List Str}{qual:Str}{scope:Scope}{f:Addr}{cd:Value}{A:Around}{outer:List Env}{s0:Shared}{H0:Hp}{E:XK}
variable{X:Cx}{elt iter tg:Expr}{xs:List Str}{pos:Pos}{ifs:List Expr}{cl:List (Str×Addr)}{N':List Str}{js:List Nat}{tt:TT}{g:TG}{wi:TI}
variable{scope0:Scope}{te:TX}
variable{σ:St}{Q:VK}{H1:Hp}
variable{m:Str}{st:Stmt}{ps:List Str}{k:Nat}{sp:Sp}{C:Addr}
variable{pins:List (Addr×Obj)}{H:Hp}{s:Shared}
variable{x:Str}{a:Addr}{e:Expr}{es:List Expr}{t:TA}{np cpos p2:Pos}{j k':Nat}
end
theorem RoomQ.units{k:Nat}{A:Around}(r:RoomQ k A):A.units+64<cLine:=by have:=r.un;omega
section
variable{prog:Program}{w:World}{A:Around}{E:Value->Shared->Prop}{s:Shared}
variable{X:Cx}{elt iter:Expr}{x:Str}{px pos:Pos}{ifs:List Expr}{scope:Scope}{cl:List (Str×Addr)}{N':List Str}{js:List Nat}{tt:TT}{te:TE}
variable{a1:Expr}{p rpos:Pos}{tA:TA}
variable{pins:List (Addr×Obj)}{σ:St}{H:Hp}
variable{body suite:List Stmt}{b0:Stmt}{tb:TB}{th:Addr->TS}{cx n:Str}{np hpos:Pos}{CF:Addr}
end
section
variable{X:Cx}{E:XK}{x:Str}{C:Addr}{np cpos pos:Pos}
end
end L2
namespace L2
open PySem PySem.Spec PyProof.Rows PySem.SeqAt
section
variable{X:Cx}
variable{P:Program}{w:World}{K:FG}{mg:Str->Option Value}{base:Heap}{m qual:Str}{st:Stmt}{ps N:List Str}{k:Nat}{sp:Sp}{C:Addr}
variable{x:Str}{k':Nat}{e:Expr}{es:List Expr}{t:TA}{p pos:Pos}{E:XK}
end
end L2
namespace L2
open PySem PySem.Spec PyProof.Rows PySem.SeqAt
theorem aQC{X:Cx}(hc:X.calm=true:=by rfl):Cl1 X (.builtin "max") (λxs H Q=>∃(p:Addr) (is:List Int),xs=[.ref p]/\SqL X.K H p (is.map V.int)/\0<is.length/\∀M∈is,(∀a∈is,a<=M)->Q (.int M) H):=by
 refine⟨λpins s σ H xs us Q I r h=>?_⟩;obtain⟨p,is,rfl,hq,hpos,q⟩:=h;obtain⟨u,rfl,r1⟩:=acC r;cases r1;obtain⟨its,rv,pl,_⟩:=I.list hq;have hi:=ad7 rv;obtain⟨ys,hy⟩:=hi.allInts.items;have ei:is=ys.toList.map (·.1):=by
  rw[←nums_intItems,←hy];exact hi.numsOf.symm
 have ln:is.length=ys.size:=by rw[ei,aR,bS]
 have best:=argBest_gt (numAt ys) (ys.size-1);refine max_intList (I.ok.hd hc) (by rw[←hy];exact pl.isList) ⋯ λv h' tk hv hk=>?_;obtain⟨t,rfl⟩:=intItems_at hv;refine⟨.int _,H,I.kept hk,⟨()⟩,q _ ?_ λa ha=>?_⟩
 ·rw[numAt_eq,←ei];exact getD_mem (by have:=best.1;omega)
 ·rw[ei] at ha;obtain⟨j,hj,rfl⟩:=mem_getD ha;rw[←ei] at hj;rw[←numAt_eq];exact best.2 j ⋯
section
variable{X:Cx}{m:Str}{C:Addr}{k:Nat}{ps:List Str}{sp:Sp}{o:Expr}{ta:TE}{pos apos:Pos}
end
theorem aEE{K:FG}{H H':Hp}{v:V}{t:Value}(s:Same H H')(h:TyOf K H v t):TyOf K H' v t:=by
 cases h with
 |non=>exact .non
 |bl x=>exact .bl x
 |int i=>exact .int i
 |str x=>exact .str x
 |flt x=>exact .flt x
 |lst e=>exact .lst (s _ _ e)
 |frz e=>exact .frz (s _ _ e)
 |tup e=>exact .tup (s _ _ e)
 |dK e=>exact .dK (s _ _ e)
 |dT e=>exact .dT (s _ _ e)
 |ins e c a n k m=>exact .ins (s _ _ e) c a n k m
def IsB(K:FG)(C:Addr)(H:Hp)(v:V)(b:Bool):Prop:=∃t,TyOf K H v t/\PySem.W.kitOne K t (.ref C)=some b
theorem IsB.keep{K:FG}{C:Addr}{H H':Hp}{v:V}{b:Bool}(h:IsB K C H v b)(s:Same H H'):IsB K C H' v b:=by
 obtain⟨t,h1,h2⟩:=h;exact⟨t,aEE s h1,h2⟩
def aQR(t u:TS):TS:=λD σ H=>∃I:St->Hp->Prop,t {D with nx:=I} σ H/\∀σ' H',I σ' H'->u D σ' H'
theorem ssK{X:Cx}{st:Stmt}{rest:List Stmt}{t u:TS}(h1:S X st t)(h2:Ss X rest u):Ss X (st::rest) (aQR t u):=by
 refine⟨λpins s σ H D I h=>?_⟩;obtain⟨J,h,hJ⟩:=h;refine wpAny_execs_cons (thn (h1.h pins s σ H {D with nx:=J} I h) λf s1 q=>?_);cases f with
 |next=>
  obtain⟨σ',H',I',q⟩:=q;exact h2.h pins s1 σ' H' D I' (hJ _ _ q)
 |ret v=>exact q
 |brk=>exact q
 |cont=>exact q
theorem Digs.inv{ds ss:List Int}{a:Int}(h:Digs ds (a::ss)):∃(x:Int) (r:List Int),ds=x::r/\(0<=x/\x<a)/\Digs r ss:=by
 cases h with
 |cons h t=>exact⟨_,(),h,t⟩
theorem Digs.non{ds:List Int}(h:Digs ds []):ds=[]:=by cases h;rfl
theorem Digs.five{ds:List Int}{a b c d e:Int}(h:Digs ds [a,b,c,d,e]):∃x0 x1 x2 x3 x4:Int,ds=[x0,x1,x2,x3,x4]/\(0<=x0/\x0<a)/\(0<=x1/\x1<b)/\(0<=x2/\x2<c)/\(0<=x3/\x3<d)/\0<=x4/\x4<e:=by
 obtain⟨x0,_,rfl,h0,t⟩:=h.inv;obtain⟨x1,_,rfl,h1,t⟩:=t.inv;obtain⟨x2,_,rfl,h2,t⟩:=t.inv;obtain⟨x3,_,rfl,h3,t⟩:=t.inv;obtain⟨x4,_,rfl,h4,t⟩:=t.inv;rw[t.non];exact⟨x0,x1,x2,x3,x4,rfl,h0,h1,h2,h3,h4⟩
theorem aFY{X:Cx}{x y:Str}{a b:Expr}{ta:TA}{px py pt pos:Pos}{kt k2 pt2}(i j:Nat)(ha:As X [a,b] ta)(hN:X.N.Nodup)(hc:X.calm=true:=by rfl)(hi:X.N[i]? =some x:=by rfl)(hj:X.N[j]? =some y:=by rfl)(hij:i≠j:=by decide)
  (hx:X.env.scope.names.lookup x=some .local:=by rfl) (hy:X.env.scope.names.lookup y=some .local:=by rfl)
  (hw:swappedStores [.Tuple [.Name x px,.Name y py] kt pt] (.Tuple [a,b] k2 pt2) X.env=pure (some [x,y]):=by rfl)
  (hs:swapsWithSole [.Tuple [.Name x px,.Name y py] kt pt] (.Tuple [a,b] k2 pt2) pos.line X.env=pure false:=by rfl):
  S X (.Assign [.Tuple [.Name x px,.Name y py] kt pt] (.Tuple [a,b] k2 pt2) pos) (aRJ i j ta):=⟨aIT hc hN hi hj hij hx hy ha.h hw hs⟩
section
variable{X:Cx}{es:List Expr}{kk:Nat}{tpos:Pos}
variable{js:List Nat}{σ:St}{tt:TT}{te:TE}{Q:VK}{H1:Hp}
end
theorem ae3{X:Cx}{K:FG}{e:Expr}{f:Str}{ta:TE}{pos:Pos}(he:E X e ta)(hK:X.K=K:=by rfl)(hb:attributeBase e f X.env (eval e X.env)=eval e X.env:=by rfl):E X (.Attribute e f pos) (aH3 K ta f):=hK▸eFl he hb
section
variable{js:List Nat}{σ:St}{tt:TT}{te:TE}{Q:VK}{H1:Hp}
variable{prog:Program}{w:World}{A:Around}{E:Value->Shared->Prop}{s:Shared}
variable{X:Cx}{es:List Expr}{kk:Nat}{tpos:Pos}
end
theorem oNeE{X:Cx}(hu:X.A.units+64<cLine):Op2 X (compareOp .NotEq) (λx y H Q=>∃(a b:Addr) (vs:List V),x=.ref a/\y=.ref b/\SqL X.K H a vs/\SqL X.K H b []/\Q (.bl (decide (vs≠[]))) H):=by
 refine⟨λpins s σ H x y v u Q I rx ry h=>?_⟩;obtain⟨a,b,vs,rfl,rfl,ha,hb,q⟩:=h;cases rx;cases ry;obtain⟨its,rv,pl,_⟩:=I.list ha;obtain⟨its',rv',pl',_⟩:=I.list hb;cases rv';have e:=rv.length;cases vs with
 |nil=>
  cases rv;refine SeqAt.RcNeAt.lists (e:=λ_=>true) pl.isList pl'.isList rfl ⋯ (λi h1 h2=>SeqAt.EqAt.same _) _ _ _ _ ?_;exact⟨.bl false,H,I,by show Value.bool _=Value.bool false;congr 1,q⟩
 |cons v0 vs=>
  refine SeqAt.RcNeAt.lists_lengths pl.isList pl'.isList (by rw[bI,←e];rfl) ⋯ _ _ _ _ ?_;exact⟨.bl true,H,I,rfl,q⟩
end L2
namespace L2
open PySem PySem.Spec PyProof.Rows PySem.SeqAt
noncomputable abbrev Tri:=Int×Int×Int
noncomputable def aFC(p:Tri):PyData:=.tuple [.int p.1,.int p.2.1,.int p.2.2]
noncomputable def aJ8(l:List Tri):PyData:=.list (l.map aFC)
section
variable{X:Cx}
theorem aHP:∀ns ms:List Tri,PySem.Spec.sameAll (ns.map aFC) (ms.map aFC)=decide (ns=ms)
 |[],[]=>by simp[PySem.Spec.sameAll]
 |[],_::_=>by simp[PySem.Spec.sameAll]
 |_::_,[]=>by simp[PySem.Spec.sameAll]
 |(a,b,c)::r,(x,y,z)::q=>by
  simp only[bG,aFC,PySem.Spec.sameAll,PySem.Spec.same,aHP r q];by_cases h1:a=x<;>by_cases h2:b=y<;>by_cases h3:c=z<;>simp[h1,h2,h3]
theorem aeW:∀ns ms:List (List Tri),PySem.Spec.sameAll (ns.map aJ8) (ms.map aJ8)=decide (ns=ms)
 |[],[]=>by simp[PySem.Spec.sameAll]
 |[],_::_=>by simp[PySem.Spec.sameAll]
 |_::_,[]=>by simp[PySem.Spec.sameAll]
 |a::r,b::q=>by
  simp only[bG,aJ8,PySem.Spec.sameAll,PySem.Spec.same,aHP a b,aeW r q];by_cases h1:a=b<;>simp[h1]
end
def SameBut(S:Addr->Prop)(H H':Hp):Prop:=∀b o,H b=some o->¬S b->H' b=some o
theorem SameBut.trans{S:Addr->Prop}{H H1 H2:Hp}(a:SameBut S H H1)(b:SameBut S H1 H2):SameBut S H H2:=λc o h n=>b c o (a c o h n) n
theorem SameBut.seq{S:Addr->Prop}{K:FG}{H H':Hp}{a:Addr}{xs:List V}(e:SameBut S H H')(n:∀o,H a=some o->¬S a)(h:SqL K H a xs):SqL K H' a xs:=by
 rcases h with (h | ⟨o,h⟩) | h
 ·exact .inl (.inl (e _ _ h (n _ h)))
 ·exact .inl (.inr ⟨o,e _ _ h (n _ h)⟩)
 ·exact .inr h
theorem fsc{N P:List Str}{sc:Scope}(h1:sc.kind=.function:=by rfl)(h2:sc.isCoroutine=false:=by rfl)(h3:sc.isGenerator=false:=by rfl)(h4:N.Nodup:=by decide +kernel)(h5:N.take P.length=P:=by rfl)(h6:∀x∈P,sc.names.lookup x=some .local∨sc.names.lookup x=some .cell:=by decide +kernel)(h7:∀y∈sc.names,y.2≠ .free:=by decide +kernel):FnScope N P sc:=⟨h1,h2,h3,h4,h5,h6,h7⟩
theorem zL(n:Nat)(h:n<=100:=by decide):n<=sizeLine:=by rw[eU];omega
section
variable{X:Cx}
def aTC(i j:Int):Prop:=0<=j/\j<=1000000/\i.natAbs<2^1440
theorem aFF:OpR X (binaryOp .LShift) (rI aTC λi j=>.int (i*2^j.toNat)):=opI λi j _ _ _ _ _ hc q=>lshift_int hc.1 (by
 have hb:Builtin.Int.intBits i<=1440:=intBits_le hc.2.2;have:=hc.2.1;omega) q
theorem aVG:Op2 X (binaryOp .LShift) (rI aTC λi j=>.int (i*2^j.toNat)):=⟨aFF⟩
end
end L2
namespace L2
open PySem PySem.Spec PyProof.Rows PySem.W
noncomputable def acR(a:Addr)(o:Obj):HO:=.ext λh=>h.get? a=some o
noncomputable def aqA(c:Addr)(qual:Str):HO:=.ext λh=>h.CodeRec (.ref c) qual
noncomputable def era(H:Hp)(a:Addr):Hp:=λb=>if b=a then none else H b
theorem abN{H:Hp}{a:Addr}:era H a a=none:=if_pos rfl
theorem aaZ{H:Hp}{a b:Addr}(h:b≠a):era H a b=H b:=if_neg h
theorem aqT{H:Hp}{a b:Addr}{o:HO}(h:era H a b=some o):b≠a/\H b=some o:=by
 by_cases e:b=a
 ·rw[e,abN] at h;cases h
 ·rw[aaZ e] at h;exact⟨e,h⟩
section
variable{P:Program}{w:World}{H:Hp}{h:Heap}{a:Addr}{o:HO}
theorem HOk.era_(x:HOk P w H h)(no:∀z,H a≠some (.own z))(nt:∀xs,H a≠some (.tup xs)):HOk P w (era H a) h:=λb u e=>by
 obtain⟨hb,e⟩:=aqT e;refine (x b u e).stay (λ_ _ _ q=>q) (λc q=>?_) λc xs q=>?_
 ·by_cases z:c=a
  ·exact absurd (z▸q) (no b)
  ·rw[aaZ z];exact q
 ·by_cases z:c=a
  ·exact absurd (z▸q) (nt xs)
  ·rw[aaZ z];exact q
theorem HOk.track(x:HOk P w H h)(hn:H a=none)(new:ObjOk P w (upd H a o) h a o):HOk P w (upd H a o) h:=λb u e=>by
 by_cases hb:b=a
 ·subst hb;rw[aaA] at e;cases e;exact new
 ·rw[aaD hb] at e;exact (x b u e).stay (λ_ _ _ q=>q) (λc q=>by rw[aaD (aaJ q hn)];exact q) λc xs q=>by rw[aaD (aaJ q hn)];exact q
theorem asD{ob:Obj}(e:h.get? a=some ob):ObjOk P w H h a (acR a ob):=⟨e,⟨ob,e⟩,λh1 h2 e1 k=>k _ e1⟩
theorem amW{ob:Obj}(x:HOk P w H h)(e:H a=some (acR a ob)):h.get? a=some ob:=(x a _ e).1
theorem aIQ{q:Str}(x:HOk P w H h)(e:H a=some (aqA a q)):h.CodeRec (.ref a) q:=(x a _ e).1
end
noncomputable def adM(P:Program)(w:World)(K:Frag)(mg:Str->Option Value)(base:Heap)(N:List Str)(qual:Str)(scope:Scope)(L f c':Addr)(cl:List (Str×Addr))(A:Around)(outer:List Env)(s:Shared)(H:Hp):Cx where
 prog:=P
 w:=w
 K:=K
 mg:=mg
 base:=base
 A:=A.deeper (envX qual scope L f (.ref c') cl)
 N:=N
 s₀:=s
 H₀:=H
 env:=envX qual scope L f (.ref c') cl
 outer:=outer
 stack:=envX qual scope L f (.ref c') cl::outer
 ex:=[]
 fn:=λ_=>false
 calm:=true
 pn:=[]
 xe:=λ_ _=>False
structure LamScope(x y:Str)(scope:Scope):Prop where
 kind:scope.kind=.function
 co:scope.isCoroutine=false
 gen:scope.isGenerator=false
 nocell:∀z∈scope.names,z.2≠ .cell
 par:scope.names.lookup x=some .local
 fre:scope.names.lookup y=some .free
 only:∀z∈scope.names,z.2=.free->z.1=y
 ne:x≠y
theorem ayZ{P:Program}{w:World}{K:Frag}{mg:Str->Option Value}{base:Heap}{x y:Str}{qual:Str}{scope:Scope}{f c' a:Addr}{A:Around}{outer:List Env}{s s1:Shared}{H:Hp}{u u0:Value}{v v0:V}{o0:Obj}{h1:Heap}{tk:Tok}
  (S:LamScope x y scope) (hd:A.handled=none) (e0:Env0 P w K mg base A outer s H) (ha:H a=some (acR a o0)) (ho:o0.data=.cell (some u0)) (r0:RelV v0 u0) (r:RelV v u)
  (hns:h1.Ns s.heap.objs.size (λz=>[(x,u)].reverse.lookup z)) (hk:∀b o,s.heap.get? b=some o->h1.get? b=some o) (hs:s1={s with heap:=h1,toks:=tk}):
  Inv (adM P w K mg base [x,y] qual scope s.heap.objs.size f c' [(y,a)] A outer s (era H a)) [] [some v,some v0] (era H a) s1:=by
 subst hs;have hao:=amW e0.hok ha;have noA:∀b:Addr,b∉(adM P w K mg base [x,y] qual scope s.heap.objs.size f c' [(y,a)] A outer s (era H a)).ex:=λb z=>absurd (show b∈([]:List Addr) from z) (by simp);have one:∀z c,([(y,a)]:List (Str×Addr)).lookup z=some c->z=y/\c=a:=λz c e=>by
  have m:=PySem.mem_of_lookup e;have:=bJ.mp m;exact⟨congrArg Prod.fst this,congrArg Prod.snd this⟩
 have ly:([(y,a)]:List (Str×Addr)).lookup y=some a:=by simp
 have fr:∀b,H b=none->era H a b=none:=λb e=>by
  by_cases z:b=a
  ·rw[z];exact abN
  ·rw[aaZ z];exact e
 have hok':HOk P w (era H a) s.heap:=e0.hok.era_ (λz e=>by rw[ha] at e;cases e) (λxs e=>by rw[ha] at e;cases e);have cell:h1.IsCell a (some u0):=⟨o0,hk _ _ hao,ho⟩;refine⟨⟨e0.mod,S.kind,rfl,rfl,aQ _,λz1 z2 c q1 q2=>(one z1 c q1).1.trans (one z2 c q2).1.symm,λz hz=>?_,(λz c q _=>nomatch q),λ_=>hd,Around.frames_deeper e0.frames,.inr ⟨rfl,rfl⟩,λb z=>absurd z (noA b),λb o e=>⟨(e0.bs b o e).1,fr b (e0.bs b o e).2⟩,e0.bsz,λb _ _=>noA b,λb z=>absurd z (noA b),e0.funs,λb hb=>fr b (e0.frf b hb)⟩,
  rfl,e0.bare,Un.kept hk,⟨_,hns,λi z v' q1 q2 q3=>?_⟩,λz c q=>?_,fr _ (e0.hok.fresh (aQ _)),λz c q=>?_,λp hp=>absurd (show p∈([]:List (Addr×Obj)) from hp) (by simp),hok'.kept hk,rfl⟩
 ·have hz:scope.names.lookup z=some .cell∨scope.names.lookup z=some .free:=hz;rcases hz with hz | hz
  ·exact absurd rfl (S.nocell _ (PySem.mem_of_lookup hz))
  ·have:=S.only _ (PySem.mem_of_lookup hz) rfl;exact⟨a,by show ([(y,a)]:List (Str×Addr)).lookup z=_;rw[show z=y from this];exact ly⟩
 ·match i,q1,q2 with
  |0,q1,q2=>
   cases q1;cases q2;exact⟨u,r,.inl ⟨S.par,by show ([(x,u)]:List (Str×Value)).reverse.lookup x=some u;simp⟩⟩
  |1,q1,q2=>
   cases q1;cases q2;exact⟨u0,r0,.inr ⟨.inr S.fre,a,ly,cell⟩⟩
  |i+2,q1,_=>exact nomatch q1
 ·obtain⟨_,rfl⟩:=one z c q;exact⟨_,cell⟩
 ·obtain⟨_,rfl⟩:=one z c q;exact abN
theorem aKJ{P:Program}{w:World}{K:Frag}{mg:Str->Option Value}{base:Heap}{k:Nat}{x y:Str}{name qual:Str}{params:Arguments}{body:Expr}{scope:Scope}{pm ctv:Value}{f c' a:Addr}{A:Around}{outer:List Env}{s:Shared}{H:Hp}{args:Args}{u u0:Value}{v v0:V}{o0:Obj}{Q:VK}{E:XK}{t:TE}
  (S:LamScope x y scope) (hr:Room (k+1) A) (e0:Env0 P w K mg base A outer s H) (hb:BindsTo s (kla_fn name qual params body scope [(y,a)] pm (.ref c') ctv) args [(x,u)]) (r:RelV v u)
  (hf:H f=some (acR f (kla_obj name qual params body scope [(y,a)] pm c' ctv))) (hc:H c'=some (aqA c' qual)) (ha:H a=some (acR a o0)) (ho:o0.data=.cell (some u0)) (r0:RelV v0 u0)
  (hbody:L2.E (adM P w K mg base [x,y] qual scope s.heap.objs.size f c' [(y,a)] A outer s (era H a)) body t)
  (h:t [some v,some v0] (era H a) λv' H'=>H' a=none->Q v' (upd H' a (acR a o0))):
  codeAny (model P w) A (.call (.ref f) args) (CR CX0 outer P w H s Q E) s:=by
 have lim:s.heap.NoLimit:=e0.mod.nolimit.keeps λb o e=>(e0.bs b o e).1;refine kla_callFunE (by have:=hr.dp;omega) (amW e0.hok hf) rfl S.co S.gen rfl (aIQ e0.hok hc) (hb _ _ _ _ ?_);refine wpAny_newFunctionEnv S.nocell (λz hz=>by rw[bJ.mp hz];exact S.par) (λh₁ hns hsb=>⟨lim.fresh _ hsb,?_⟩) S.kind;show codeAny _ _ (.expr body (envX qual scope s.heap.objs.size f (.ref c') [(y,a)])) _ _;have hk₁:∀b o,s.heap.get? b=some o->h₁.get? b=some o:=λb o e=>hsb.extBut b o (aW (aV e)) (aU _ e)
 refine kla_codeExpr ?_;have I:=ayZ (f:=f) (c':=c') (qual:=qual) (tk:=s.toks+([(x,u)]:List (Str×Value)).length) S hr.hd e0 ha ho r0 r hns hk₁ rfl;refine eQ (hbody.h [] _ _ _ _ I h) (λv' s' hq=>?_) λe s' hq=>hq.elim;obtain⟨z,H',J,rz,q⟩:=hq;have hao:=amW e0.hok ha
 -- the cell is as it was
 have ca:s'.heap.get? a=some o0:=J.base.keep a o0 hao abN (λhb=>by
  have:=e0.frf a hb;rw[ha] at this;cases this) (by simp[adM])
 refine⟨z,upd H' a (acR a o0),J.os,J.bare,⟨λb o e n hb hx=>?_,λb o e n hb hx=>?_,λb o e n hx=>?_,λb o e hx=>J.base.there b o e hx,λb xs e=>?_,λb o u e=>?_,λb ps e=>?_⟩,J.hok.track (J.base.free a o0 hao abN (by simp[adM])) (asD ca),rz,q (J.base.free a o0 hao abN (by simp[adM]))⟩
 all_goals have na:b≠a:=λz=>by (first | (rw[z,ha] at n;cases n) | (rw[z,ha] at e;cases e))
 ·exact J.base.keep b o e (by rw[show (adM P w K mg base [x,y] qual scope s.heap.objs.size f c' [(y,a)] A outer s (era H a)).H₀=era H a from rfl,aaZ na];exact n) hb hx
 ·exact J.base.slot b o e (by rw[show (adM P w K mg base [x,y] qual scope s.heap.objs.size f c' [(y,a)] A outer s (era H a)).H₀=era H a from rfl,aaZ na];exact n) hb hx
 ·rw[aaD na];exact J.base.free b o e (by rw[show (adM P w K mg base [x,y] qual scope s.heap.objs.size f c' [(y,a)] A outer s (era H a)).H₀=era H a from rfl,aaZ na];exact n) hx
 ·rw[aaD na];exact J.base.tups b xs (by rw[show (adM P w K mg base [x,y] qual scope s.heap.objs.size f c' [(y,a)] A outer s (era H a)).H₀=era H a from rfl,aaZ na];exact e)
 ·rw[aaD na];exact J.base.frzs b o u (by rw[show (adM P w K mg base [x,y] qual scope s.heap.objs.size f c' [(y,a)] A outer s (era H a)).H₀=era H a from rfl,aaZ na];exact e)
 ·obtain⟨more,z⟩:=J.base.tbls b ps (by rw[show (adM P w K mg base [x,y] qual scope s.heap.objs.size f c' [(y,a)] A outer s (era H a)).H₀=era H a from rfl,aaZ na];exact e);exact⟨more,by rw[aaD na];exact z⟩
end L2
namespace L2
open PySem PySem.Spec PyProof.Rows PySem.W
structure FnC(K:Frag)(mg:Str->Option Value)(x:Str)(st:Stmt)(ps:List Str)(c:Addr):Prop where
 ex:∃(f:Addr) (oc:Value) (od:Option Addr) (kV doc pm:Value) (an:Option Addr) (ct:Value) (osl:Array (Option Value)),
  K.lookup f=some ⟨oc,od,.func (fnOf x x (abC st) (aaX st) (aaC st) .none kV doc pm an (.ref c) ct),osl⟩/\codeIn K (.ref c) x=true/\keepIn K (.ref f)=true/\Binds K (fnOf x x (abC st) (aaX st) (aaC st) .none kV doc pm an (.ref c) ct) ps []/\mg x=some (.ref f)
section
variable{P:Program}{w:World}{K:Frag}{mg:Str->Option Value}{base:Heap}{x:Str}{st:Stmt}{ps N:List Str}{k:Nat}{sp:Sp}{c:Addr}
theorem FnC.dfs(F:FnC K mg x st ps c)(S':FnScope N ps (aaC st))(len:∀vs H Q E,sp vs H Q E->vs.length=ps.length)
  (hbody:∀(f:Addr) (A:Around) (outer:List Env) (s:Shared) (H:Hp) (vs:List V) (Q:VK) (E:XK),Room k (A.deeper (envOfC x (aaC st) s.heap.objs.size f (.ref c)))->sp vs H Q E->
   Go P w K mg base N x st f (.ref c) A outer s H vs Q E):Df P w K mg base x (k+1) ps sp:=by
 obtain⟨f,oc,od,kV,doc,pm,an,ct,osl,lk,hcd,kp,hb,hm⟩:=F.ex;refine⟨⟨f,_,aC5 lk hcd S' len λA outer s H vs Q E hr hsp=>?_,hb,hm,kp⟩⟩;obtain⟨t,h,q⟩:=hbody f A outer s H vs Q E hr hsp;exact⟨t,h.h.nox,q⟩
theorem aJM{h:Heap}{f:Addr}{oc:Value}{od an:Option Addr}{osl:Array (Option Value)}{kV doc pm ct:Value}(X:K.In h)(G:h.Ns mainGlobals mg)
  (a:nsIn K mainGlobals x=some (some (.ref f))) (l:K.lookup f=some ⟨oc,od,.func (fnOf x x (abC st) (aaX st) (aaC st) .none kV doc pm an (.ref c) ct),osl⟩)
  (cd:codeIn K (.ref c) x=true) (kp:keepIn K (.ref f)=true)
  (hb:∀(kV doc pm:Value) (an:Option Addr) (cdv ct:Value) (us:List Value),us.length=ps.length->bindArgs (fnOf x x (abC st) (aaX st) (aaC st) .none kV doc pm an cdv ct) ⟨us,[]⟩=pure (ps.zip us)):FnC K mg x st ps c:=
 ⟨⟨f,oc,od,kV,doc,pm,an,ct,osl,l,cd,kp,(arK (st:=st) l cd kp).binds (ps:=ps) hb,mg_of X G a⟩⟩
end
structure Host(K:Frag)(mg:Str->Option Value)(c Pt bm:Addr):Prop where
 code:∀h:Heap,K.In h->CodeHd h c Pt
 blt:mg "__builtins__"=some (.ref bm)/\bm≠builtinsNs
def ayP(H:Hp)(bm:Addr):Prop:=∃ob u,H bm=some (.frz ob u)/\ob.cls=.type "module"/\ob.dict=some builtinsNs/\ob.data=.plain
noncomputable def acW(X:Cx)(y:Str):Addr:=(X.env.cells.lookup y).getD 0
noncomputable def azS(qual:Str)(params:Arguments)(body:Expr)(scope:Scope)(y:Str)(a:Addr)(pm:Value)(c':Addr)(ctv:Value):Obj:=kla_obj "<lambda>" qual params body scope [(y,a)] pm c' ctv
def aT1(Pt bm:Addr)(lpos:Pos)(qual:Str)(params:Arguments)(body:Expr)(scope:Scope)(y:Str)(a:Addr)(pm:Value):TE:=λ_ H Q=>ayP H bm/\∃ps:Array Value,H Pt=some (.tbl ps)/\TriplesOk ps.toList/\
 ((codeAmong lpos ps.toList=none/\∀f c' ctv,H f=none->H c'=none->c'≠f->Q (.ref f) (upd (upd (upd H Pt (.tbl (ps++ #[rawInt lpos.line,rawInt lpos.col,.ref c']))) c' (aqA c' qual)) f (acR f (azS qual params body scope y a pm c' ctv))))∨
 (∃c0,codeAmong lpos ps.toList=some (.ref c0)/\H c0=some (aqA c0 qual)/\∀f ctv,H f=none->Q (.ref f) (upd H f (acR f (azS qual params body scope y a pm c0 ctv)))))
section
variable{X:Cx}
theorem eLam{params:Arguments}{body:Expr}{scope:Scope}{lpos:Pos}{y:Str}{c Pt bm:Addr}(hh:Host X.K X.mg c Pt bm)(hcode:X.env.code=.ref c:=by rfl)(hcl:closureFor scope X.env=pure [(y,acW X y)]:=by rfl)(hdef:defaultsOf params X.env=([],[]):=by rfl):
  E X (.Lambda params body scope lpos) (aT1 Pt bm lpos (X.env.qual++"<lambda>") params body scope y (acW X y) ((X.mg "__name__").getD .none)):=by
 refine⟨λpins s σ H Q I h=>?_⟩;obtain⟨⟨ob,u,hbm,b4,b5,b6⟩,ps,hP,ht,h⟩:=h;have hPh:s.heap.get? Pt=some (tabObj ps):=I.hok Pt _ hP;have hg:s.heap.Ns mainGlobals X.mg:=I.mod.glob.keeps I.bk;have bn:∀b o,X.base.get? b=some o->b≠Pt:=λb o e z=>by
  have:=(I.bs b o e).2;rw[z,hP] at this;cases this
 have hgP:mainGlobals≠Pt:=by
  obtain⟨o,es,ep,e,_⟩:=I.mod.glob;exact bn _ _ e
 have hb:s.heap.BuiltinsAt X.mg Pt:=by
  obtain⟨b1,b2⟩:=hh.blt;refine⟨bm,ob,b1,b2,λz=>?_,λz=>?_,(I.hok bm _ hbm).1,b4,b5,b6⟩
  ·obtain⟨o,es,ep,e2,_⟩:=I.mod.glob;have:=(I.bs _ _ e2).2;rw[←z,hbm] at this;cases this
  ·rw[z,hP] at hbm;cases hbm
 have nl:X.env.locals≠Pt:=λz=>by
  have:=I.free;rw[z,hP] at this;cases this
 refine kla_eval hdef ?_;rcases h with ⟨hnf,h⟩ | ⟨c0,hf,hc0,h⟩
 ·refine kla_makeFunction (mg:=X.mg) hcl I.ok.glob hg hcode (hh.code _ I.kIn) hPh ht hnf hgP hb λc' ctv h' tk hx hge hlt hrec htb=>?_;have szle:s.heap.objs.size<=h'.objs.size:=Nat.le_of_lt (d9 hge hlt);have ltc:∀b o,s.heap.get? b=some o->b≠c'/\b≠h'.objs.size:=λb o e=>⟨aW (bA (aV e) hge),aW (bA (aV e) szle)⟩;have hc'n:H c'=none:=I.hok.fresh hge;have hfn:H h'.objs.size=none:=I.hok.fresh szle;have cf:c'≠h'.objs.size:=aW hlt
  have trk:∀b o,H b=some o->b≠c'/\b≠h'.objs.size:=λb o e=>⟨aaJ e hc'n,aaJ e hfn⟩
  let fo:=azS (X.env.qual++"<lambda>") params body scope y (acW X y) ((X.mg "__name__").getD .none) c' ctv
  let H1:=upd (upd (upd H Pt (.tbl (ps++ #[rawInt lpos.line,rawInt lpos.col,.ref c']))) c' (aqA c' (X.env.qual++"<lambda>"))) h'.objs.size (acR h'.objs.size fo)
  have H1o:∀b,b≠Pt->b≠c'->b≠h'.objs.size->H1 b=H b:=λb n1 n2 n3=>by show upd (upd (upd H Pt _) c' _) h'.objs.size _ b=_;rw[aaD n3,aaD n2,aaD n1]
  have kp:∀b o,b≠Pt->s.heap.get? b=some o->(h'.push fo).get? b=some o:=λb o n e=>aU _ (hx b o n e);have PtN:Pt≠c'/\Pt≠h'.objs.size:=trk _ _ hP;have H1P:H1 Pt=some (.tbl (ps++ #[rawInt lpos.line,rawInt lpos.col,.ref c'])):=by show upd (upd (upd H Pt _) c' _) h'.objs.size _ Pt=_;rw[aaD PtN.2,aaD PtN.1,aaA]
  have H1c:H1 c'=some (aqA c' (X.env.qual++"<lambda>")):=by show upd (upd (upd H Pt _) c' _) h'.objs.size _ c'=_;rw[aaD cf,aaA]
  have H1f:H1 h'.objs.size=some (acR h'.objs.size fo):=aaA;have hok:HOk X.prog X.w H1 (h'.push fo):=λb u e=>by
   by_cases n3:b=h'.objs.size
   ·subst n3;rw[H1f] at e;cases e;exact asD (a9 _ rfl)
   by_cases n2:b=c'
   ·subst n2;rw[H1c] at e;cases e;obtain⟨c2,oc,vs,t,e2,hoc,hd,hv⟩:=hrec;cases e2;exact⟨⟨b,oc,vs,t,rfl,aU _ hoc,hd,hv⟩,⟨oc,aU _ hoc⟩,λh1 h2 ⟨c2,oc,vs,t,e2,hoc,hd,hv⟩ k=>by cases e2;exact⟨b,oc,vs,t,rfl,k _ hoc,hd,hv⟩⟩
   by_cases n1:b=Pt
   ·subst n1;rw[H1P] at e;cases e;exact aU _ htb
   rw[H1o b n1 n2 n3] at e;refine (I.hok b u e).stay (λd v z q=>kp d v (λzz=>?_) q) (λd q=>?_) λd xs q=>?_
   ·rcases z with z | z
    ·exact n1 (z.symm.trans zz)
    ·rw[zz,hP] at z;cases z
   ·have:=trk _ _ q;rw[H1o d (λzz=>by rw[zz,hP] at q;cases q) this.1 this.2];exact q
   ·have:=trk _ _ q;rw[H1o d (λzz=>by rw[zz,hP] at q;cases q) this.1 this.2];exact q
  refine⟨.ref h'.objs.size,H1,?_,rfl,h h'.objs.size c' ctv hfn hc'n cf⟩;refine I.step (g':=s.gens) (d':=s.drawn) (t':=tk) (ch:=[]) (λ_ z=>nomatch z) (λb o _ _ _ e n=>kp b o (λz=>by rw[z,hP] at n;cases n) e) (λb o _ _ _ e n=>⟨o.slots,kp b o (λz=>by rw[z,hP] at n;cases n) e⟩) (λb o _ e n=>?_) (λb o _ e=>?_) (λb xs e=>?_) (λb o u e=>?_) (λb qs e=>?_) (λm hm=>(hm.extBut hx nl).push _) hok I.bare
  ·rw[H1o b (λz=>by rw[z,hP] at n;cases n) (ltc b o e).1 (ltc b o e).2];exact n
  ·by_cases z:b=Pt
   ·rw[z];exact⟨_,aU _ htb⟩
   ·exact⟨o,kp b o z e⟩
  ·rw[H1o b (λz=>by rw[z,hP] at e;cases e) (trk _ _ e).1 (trk _ _ e).2];exact e
  ·rw[H1o b (λz=>by rw[z,hP] at e;cases e) (trk _ _ e).1 (trk _ _ e).2];exact e
  ·by_cases z:b=Pt
   ·rw[z,hP] at e;cases e;exact⟨_,z▸H1P⟩
   ·exact⟨#[],by rw[H1o b z (trk _ _ e).1 (trk _ _ e).2,e];simp⟩
 ·refine kla_makeFunctionHit (mg:=X.mg) hcl I.ok.glob hg hcode (hh.code _ I.kIn) hPh ht hf hb λctv h' tk hk hsz=>?_;have hfn:H h'.objs.size=none:=I.hok.fresh hsz
  let fo:=azS (X.env.qual++"<lambda>") params body scope y (acW X y) ((X.mg "__name__").getD .none) c0 ctv
  have kp:∀b o,s.heap.get? b=some o->(h'.push fo).get? b=some o:=λb o e=>aU _ (hk b o e);have hok:HOk X.prog X.w (upd H h'.objs.size (acR h'.objs.size fo)) (h'.push fo):=I.hok.laid kp hsz (asD (a9 _ rfl));refine⟨.ref h'.objs.size,upd H h'.objs.size (acR h'.objs.size fo),?_,rfl,h h'.objs.size ctv hfn⟩;exact I.step (g':=s.gens) (d':=s.drawn) (t':=tk) (ch:=[]) (λ_ z=>nomatch z) (λb o _ _ _ e n=>kp b o e) (λb o _ _ _ e n=>⟨o.slots,kp b o e⟩) (λb o _ e n=>by rw[aaD (aW (bA (aV e) hsz))];exact n) (λb o _ e=>⟨o,kp b o e⟩) (λb xs e=>by rw[aaD (aaJ e hfn)];exact e) (λb o u e=>by rw[aaD (aaJ e hfn)];exact e) (λb qs e=>⟨#[],by rw[aaD (aaJ e hfn),e];simp⟩) (λm hm=>(hm.keeps hk).push _) hok I.bare
end
end L2
namespace L2
open PySem PySem.Spec PyProof.Rows PySem.W
section
variable{X:Cx}
theorem aBZ{pins:List (Addr×Obj)}{σ:St}{H:Hp}{s:Shared}{Q:VK}{us:List Value}{vs:List V}{k:Nat}{f:Addr}{fd:FuncData}{ps:List Str}{sp:Sp}{i:Nat}{y:Str}{v0:V}(F:FnOk X.prog X.w X.K X.mg X.base CX0 k f fd ps sp)(hr:Room k X.A)(hb:Binds X.K fd ps [])
  (I:Inv X pins σ H s) (r:Vals vs us) (hi:X.N[i]? =some y) (hv:σ[i]? =some (some v0)) (hky:X.env.kindOf y=some .cell) (hcy:X.env.cells.lookup y=some (acW X y)) (hfn:X.fn y=true)
  (h:H (acW X y)=none->∀(o0:Obj) (u0:Value),o0.data=.cell (some u0)->RelV v0 u0->sp vs (upd H (acW X y) (acR (acW X y) o0)) (λv H'=>H' (acW X y)=some (acR (acW X y) o0)/\Q v (era H' (acW X y))) E0):
  wpAny (model X.prog X.w) X.A (call (.ref f) us) (EP X pins σ Q) X.xe s:=by
 obtain⟨m,hn,hl⟩:=I.loc;obtain⟨u0,r0,l⟩:=hl i y v0 hi hv (.inr (.inl hky));rcases l with ⟨z,_⟩ | ⟨_,c,ec,o0,ho,hd⟩
 ·rw[hky] at z;cases z
 rw[hcy] at ec;cases ec;have ha:H (acW X y)=none:=I.freeC y _ hcy;have hge:X.s₀.heap.objs.size<=acW X y:=I.ok.cab y _ hfn hcy;have q:=h ha o0 u0 hd r0;generalize ea:acW X y=a at *;have hok:HOk X.prog X.w (upd H a (acR a o0)) s.heap:=I.hok.track ha (asD ho);have nb:∀b o,X.base.get? b=some o->b≠a:=λb o e=>aW (bA (bA (aV e) I.ok.bsz) hge);have nf:∀b∈frs X.stack,b≠a:=λb hb z=>by
  subst z;rcases aX.mp (I.stkSub b hb) with e | hb
  ·exact I.cne y _ hcy (ea▸e)
  ·obtain⟨_,o,ho',_⟩:=I.ok.funs.mem hb;exact absurd (bA (aV ho') hge) (cR _)
 have e0:Env0 X.prog X.w X.K X.mg X.base X.A X.stack s (upd H a (acR a o0)):=⟨I.ok.frames,I.ok.mod,λb o e=>⟨(I.bs b o e).1,by rw[aaD (nb b o e)];exact (I.bs b o e).2⟩,bL I.ok.bsz I.sz,I.stack,λb hb=>by rw[aaD (nf b hb)];exact I.stkFree b hb,hok,I.bare⟩;have hlen:(us++[]).length=ps.length:=by rw[cU,←r.length];exact F.len _ _ _ _ q
 have bt:=hb s us I.kIn hlen;rw[cU] at bt;refine wpAny_call (eX (F.run X.A X.stack s _ ⟨us,[]⟩ us vs _ E0 hr e0 bt r q) λr s' hq=>?_);cases r with
 |error e=>exact False.elim hq
 |ok fl=>
  cases fl with
  |next=>exact False.elim hq
  |brk=>exact False.elim hq
  |cont=>exact False.elim hq
  |ret u=>
   obtain⟨v,H',os,bare,un,hok',rz,hca,q⟩:=hq;have ca:=amW hok' hca;refine I.after ⟨v,era H' a,os,bare,⟨λb o e n hb hx=>?_,λb o e n hb hx=>?_,λb o e n hx=>?_,λb o e hx=>un.there b o e hx,λb xs e=>?_,λb o u e=>?_,λb qs e=>?_⟩,hok'.era_ (λz e=>by rw[hca] at e;cases e) (λxs e=>by rw[hca] at e;cases e),rz,q⟩
   ·by_cases z:b=a
    ·subst z;rw[ho] at e;cases e;exact ca
    ·exact un.keep b o e (by rw[aaD z];exact n) hb hx
   ·exact un.slot b o e (by rw[aaD (nf b hb)];exact n) hb hx
   ·by_cases z:b=a
    ·rw[z];exact abN
    ·rw[aaZ z];exact un.free b o e (by rw[aaD z];exact n) hx
   ·have z:b≠a:=aaJ e ha;rw[aaZ z];exact un.tups b xs (by rw[aaD z];exact e)
   ·have z:b≠a:=aaJ e ha;rw[aaZ z];exact un.frzs b o u (by rw[aaD z];exact e)
   ·have z:b≠a:=aaJ e ha;obtain⟨more,e'⟩:=un.tbls b qs (by rw[aaD z];exact e);exact⟨more,by rw[aaZ z];exact e'⟩
def aA3(i:Nat)(a:Addr)(sp:Sp)(t:TA):TE:=λσ H Q=>t σ H λvs H1=>∃v0,σ[i]? =some (some v0)/\(H1 a=none->∀(o0:Obj) (u0:Value),o0.data=.cell (some u0)->RelV v0 u0->sp vs (upd H1 a (acR a o0)) (λv H'=>H' a=some (acR a o0)/\Q v (era H' a)) E0)
theorem aKD{x:Str}{k k':Nat}{ps:List Str}{sp:Sp}{e:Expr}{es:List Expr}{t:TA}{p pos:Pos}(y:Str)(i:Nat)(D:Df X.prog X.w X.K X.mg X.base x k ps sp)(hr:Room k' X.A)(ha:As X (e::es) t)(hk:k<=k':=by decide)(hi:X.N[i]? =some y:=by rfl)(hky:X.env.kindOf y=some .cell:=by rfl)(hcy:X.env.cells.lookup y=some (acW X y):=by rfl)(hfn:X.fn y=true:=by rfl)(hg:Gl X x:=by rfl)
  (hdb:(x==("__debug__":Str))=false:=by decide) (he:starEach (e::es) X.env=(false,eval e X.env)::starEach es X.env:=by rfl) (hpl:(backTo pos (starEach es X.env)).any (·.1)=false:=by rfl):
  E X (.Call (.Name x p) (e::es) [] pos) (aA3 i (acW X y) sp t):=by
 obtain⟨f,fd,F,hb,hm,kp⟩:=D.ex;refine⟨λpins s σ H Q I h=>?_⟩;refine fE (af7 I hg hm ?_ hdb);refine callWith_K (h₀:=X.base) I.ok.mod.kin kp (thn (ha.h pos pins s σ H _ I h) λus s1 ⟨vs,H1,I1,r,v0,hv,q⟩=>⟨I1.kIn,?_⟩) he hpl;exact aBZ F (hr.mono hk) hb I1 r hi hv hky hcy hfn q
def Calls(P:Program)(w:World)(K:Frag)(mg:Str->Option Value)(base:Heap)(k:Nat)(f:Addr)(vs:List V)(H:Hp)(Q:VK):Prop:=
 ∀(A:Around) (outer:List Env) (s:Shared) (us:List Value),Room k A->Env0 P w K mg base A outer s H->Vals vs us->codeAny (model P w) A (.call (.ref f) ⟨us,[]⟩) (CR CX0 outer P w H s Q E0) s
def FnHO(H:Hp)(f:Addr):Prop:=∃(oc:Value) (od:Option Addr) (fd:FuncData) (sl:Array (Option Value)),H f=some (acR f ⟨oc,od,.func fd,sl⟩)
def aKL(P:Program)(w:World)(K:Frag)(mg:Str->Option Value)(base:Heap)(k:Nat)(tv:TE)(t:TA):TE:=λσ H Q=>tv σ H λv H1=>∃f,v=.ref f/\FnHO H1 f/\t σ H1 λvs H2=>FnHO H2 f/\Calls P w K mg base k f vs H2 Q
theorem FnHO.at_{P:Program}{w:World}{H:Hp}{h:Heap}{f:Addr}(x:HOk P w H h)(e:FnHO H f):FnAt f h:=by
 obtain⟨oc,od,fd,sl,e⟩:=e;exact⟨oc,od,fd,sl,amW x e⟩
theorem aI6{y:Str}{e:Expr}{es:List Expr}{t:TA}{tv:TE}{k k':Nat}{p pos:Pos}(hr:Room k' X.A)(hv:E X (.Name y p) tv)(ha:As X (e::es) t)(hk:k<=k':=by decide)
  (he:starEach (e::es) X.env=(false,eval e X.env)::starEach es X.env:=by rfl) (hpl:(backTo pos (starEach es X.env)).any (·.1)=false:=by rfl):E X (.Call (.Name y p) (e::es) [] pos) (aKL X.prog X.w X.K X.mg X.base k tv t):=by
 refine⟨λpins s σ H Q I h=>?_⟩;refine fE (thn (hv.h pins s σ H _ I h) λv s1 ⟨x,H1,I1,r1,f,ex,hf1,q⟩=>?_);subst ex;cases r1;refine callWith_F (hf1.at_ I1.hok) (thn (ha.h pos pins s1 σ H1 _ I1 q) λus s2 ⟨vs,H2,I2,r,hf2,hc⟩=>⟨hf2.at_ I2.hok,?_⟩) he hpl;refine wpAny_call (eX (hc X.A X.stack s2 us (hr.mono hk) I2.env0 r) λr s' hq=>?_);cases r with
 |error e=>exact False.elim hq
 |ok fl=>
  cases fl with
  |ret u=>exact I2.after hq
  |next=>exact False.elim hq
  |brk=>exact False.elim hq
  |cont=>exact False.elim hq
end
end L2
namespace L2
open PySem PySem.Spec PyProof.Rows PySem.W
def axZ(tabs:List Addr)(bm:Addr)(H:Hp):Prop:=(∀b∈tabs,H b=some (.tbl #[]))/\(∀b,b∉tabs->H b=none∨∃o u,H b=some (.frz o u))/\ayP H bm
theorem azD{P:Program}{w:World}{K:Frag}{mg mb:Str->Option Value}{k:Nat}{fa a:Addr}{fd:FuncData}{x:Str}{sp:Sp}{s₁:Shared}{vs:List Value}{ns:List Int}{tabs:List Addr}{bm:Addr}{ob:Obj}
  (KX:K.In s₁.heap) (hns:s₁.heap.Ns mainGlobals mg) (hb:s₁.heap.Ns builtinsNs mb) (hbb:∀x:Str,x≠"__name__"->mb x=bootBuiltins x) (hlim:s₁.heap.NoLimit) (hg:s₁.gens= #[])
  (hT:∀b∈tabs,isCodeTable s₁.heap b/\s₁.heap.get? b=some (tabObj #[])) (hTK:∀b∈tabs,K.lookup b=none)
  (hB:s₁.heap.get? bm=some ob) (hBK:K.lookup bm=none) (b4:ob.cls=.type "module") (b5:ob.dict=some builtinsNs) (b6:ob.data=.plain)
  (ha:s₁.heap.get? a=some {cls:=.type "list",data:=.seq vs.toArray}) (hi:IntsAre vs ns) (hl:ns.length<=sizeLine) (hr:Room k callerA)
  (F:∀base:Heap,K.In base->base.Ns mainGlobals mg->FnOk P w K mg base CX0 k fa fd [x] sp) (hbind:∀(s:Shared) (u:Value),BindsTo s fd ⟨[u],[]⟩ [(x,u)])
  (hsp:∀H:Hp,axZ tabs bm H->SqL K H a (ns.map V.int)->sp [.ref a] H (λv _=>v=.bl true) λ_ _ _=>False):
  codeAny (model P w) callerA (.call (.ref fa) ⟨[.ref a],[]⟩) (λr s'=>r=.ok (.ret (.bool true))/\OldK s₁.heap s'.heap/\s'.os=s₁.os/\AllBare s'.gens) s₁:=by
 have rv:=ajF hi;have lenV:=hi.length;have aT:a∉tabs:=λh=>by
  have:=(hT a h).2;rw[ha] at this;cases this
 have bT:bm∉tabs:=λh=>by
  have:=(hT bm h).2;rw[hB] at this;cases this;cases b6
 have ba:bm≠a:=λh=>by
  rw[h,ha] at hB;cases hB;cases b6
 have core:∀H:Hp,axZ tabs bm H->SqL K H a (ns.map V.int)->HOk P w H s₁.heap->(∀b,b∉tabs->H b≠none->b=a∨b=bm)->(H a≠none->K.lookup a=none)->
   codeAny (model P w) callerA (.call (.ref fa) ⟨[.ref a],[]⟩) (λr s'=>r=.ok (.ret (.bool true))/\OldK s₁.heap s'.heap/\s'.os=s₁.os/\AllBare s'.gens) s₁:=by
  intro H hO hS hok hA hK;have base_of:∀{b:Addr} {o:Obj},s₁.heap.get? b=some o->H b=none->(ap5 s₁.heap H).get? b=some o:=λe n=>aDK e n;have cases_:∀b,H b=none∨b∈tabs∨b=a∨b=bm:=λb=>by
   by_cases h:b∈tabs
   ·exact .inr (.inl h)
   ·cases q:H b with
    |none=>exact .inl rfl
    |some u=>exact .inr (.inr (hA b h (by rw[q];simp)))
  have noA:∀{b:Addr} {o:Obj} {es:Array DictEntry} {ep:Nat},s₁.heap.get? b=some o->o.data=.dict es ep->H b=none:=λ{b o es ep} e d=>by
   rcases cases_ b with h | h | h | h
   ·exact h
   ·rw[(hT b h).2] at e;cases e;cases d
   ·rw[h,ha] at e;cases e;have d':Data.seq vs.toArray _=Data.dict es ep:=d;cases d'
   ·rw[h,hB] at e;cases e;rw[b6] at d;cases d
  have nsK:∀{b:Addr} {m:Str->Option Value},s₁.heap.Ns b m->(ap5 s₁.heap H).Ns b m:=λ{b m} ⟨o,es,ep,e,d,r⟩=>⟨o,es,ep,base_of e (noA e d),d,r⟩;have hKb:K.In (ap5 s₁.heap H):=λb o e=>base_of (KX b o e) (by
   rcases cases_ b with h | h | h | h
   ·exact h
   ·rw[hTK b h] at e;cases e
   ·cases q:H b with
    |none=>rfl
    |some u=>
     subst h;rw[hK (by rw[q];simp)] at e;cases e
   ·rw[h,hBK] at e;cases e)
  have hM:Mod K mg (ap5 s₁.heap H):=⟨hKb,nsK hns,⟨mb,nsK hb,hbb⟩,let ⟨mc,h1,h2⟩:=hlim;⟨mc,nsK h1,h2⟩⟩;have e0:Env0 P w K mg (ap5 s₁.heap H) callerA [] s₁ H:=⟨rfl,hM,λb o e=>aGA e,Nat.le_of_eq (ay7 _ _),trivial,λb hb=>absurd (show b∈([]:List Addr) from hb) (by simp),hok,.of_eq hg⟩;refine eX ((F _ hKb (nsK hns)).run callerA [] s₁ H ⟨[.ref a],[]⟩ [.ref a] [.ref a] _ _ hr e0 (hbind s₁ (.ref a)) (.cons rfl .nil) (hsp H hO hS)) λr s' h=>?_
  cases r with
  |error e=>exact False.elim h
  |ok fl=>
   cases fl with
   |next=>exact False.elim h
   |brk=>exact False.elim h
   |cont=>exact False.elim h
   |ret u=>
    obtain⟨v,H',os,bare,un,hok',r',q⟩:=h;have q':v=.bl true:=q;subst q';obtain rfl:u=Value.bool true:=r';have kept:∀b o,b∉tabs->s₁.heap.get? b=some o->s'.heap.get? b=some o:=λb o nb e=>by
     cases q:H b with
     |none=>exact un.keep b o e q (by intro z;exact absurd (show b∈([]:List Addr) from z) (by simp)) (by simp)
     |some u=>
      rcases hO.2.1 b nb with z | ⟨ob',xs,z⟩
      ·rw[q] at z;cases z
      ·have z2:=un.frzs b ob' _ z;obtain⟨e1,_⟩:=hok b _ z;obtain⟨e2,_⟩:=hok' b _ z2;rw[e] at e1;cases e1;exact e2
    have grown:∀b,b∈tabs->∃ps,s'.heap.get? b=some (tabObj ps):=λb hb=>by
     obtain⟨more,z⟩:=un.tbls b #[] (hO.1 b hb);exact⟨_,hok' b _ z⟩
    refine⟨rfl,⟨λb o e=>?_,λb o e=>?_⟩,os,bare⟩
    ·by_cases hb:b∈tabs
     ·obtain⟨ps,hp⟩:=grown b hb;rw[(hT b hb).2] at e;cases e;exact .inr (.inl ⟨(hT b hb).1,rfl,#[],ps,rfl,by rw[Array.empty_append];exact hp⟩)
     ·exact .inl (kept b o hb e)
    ·by_cases hb:b∈tabs
     ·obtain⟨ps,hp⟩:=grown b hb;exact⟨_,hp⟩
     ·exact⟨o,kept b o hb e⟩
 have tOk:∀(H:Hp) (b:Addr),b∈tabs->ObjOk P w H s₁.heap b (.tbl #[]):=λH b hb=>(hT b hb).2
 let G:Hp->Hp:=λH0 b=>if b∈tabs then some (.tbl #[]) else if b=bm then some (.frz ob (acR bm ob)) else H0 b
 have Gt:∀{H0:Hp} {b:Addr},b∈tabs->G H0 b=some (.tbl #[]):=λhb=>if_pos hb;have Gb:∀{H0:Hp},G H0 bm=some (.frz ob (acR bm ob)):=(if_neg bT).trans (if_pos rfl);have Go:∀{H0:Hp} {b:Addr},b∉tabs->b≠bm->G H0 b=H0 b:=λh1 h2=>(if_neg h1).trans (if_neg h2);have only:∀H0:Hp,(∀b,H0 b=none∨∃o u,H0 b=some (.frz o u))->axZ tabs bm (G H0):=λH0 h=>⟨λb hb=>Gt hb,λb hb=>by
  by_cases e:b=bm
  ·subst e;exact .inr ⟨_,_,Gb⟩
  ·rw[Go hb e];exact h b,ob,_,Gb,b4,b5,b6⟩
 have oks:∀H0:Hp,(∀b u,b∉tabs->b≠bm->H0 b=some u->ObjOk P w (G H0) s₁.heap b u)->HOk P w (G H0) s₁.heap:=λH0 h b u z=>by
  by_cases hb:b∈tabs
  ·rw[Gt hb] at z;cases z;exact tOk _ b hb
  ·by_cases e:b=bm
   ·subst e;rw[Gb] at z;cases z;exact⟨hB,asD hB⟩
   ·rw[Go hb e] at z;exact h b u hb e z
 cases hk:K.lookup a with
 |some o=>
  have e:=KX a o hk;rw[ha] at e;cases e;refine core (G λ_=>none) (only _ λb=>.inl rfl) (.inr ⟨_,vs.toArray,_,hk,rfl,rfl,rfl,by rw[bI,lenV];exact hl,by simpa using rv⟩) (oks _ λb u _ _ z=>by cases z) (λb hb z=>?_) λz=>absurd (Go (H0:=λ_=>none) aT ba.symm) z;by_cases e:b=bm
  ·exact .inr e
  ·exact absurd (Go (H0:=λ_=>none) hb e) z
 |none=>
  refine core (G λb=>if b=a then some (.frz {cls:=.type "list",data:=.seq vs.toArray} (.lst (ns.map V.int))) else none) (only _ λb=>?_) (.inl (.inr ⟨{cls:=.type "list",data:=.seq vs.toArray},(Go (H0:=λb=>if b=a then some (.frz {cls:=.type "list",data:=.seq vs.toArray} (.lst (ns.map V.int))) else none) aT ba.symm).trans (if_pos rfl)⟩)) (oks _ λb u hb nb z=>?_) (λb hb z=>?_) λ_=>hk
  ·by_cases e:b=a
   ·exact .inr ⟨_,_,if_pos e⟩
   ·exact .inl (if_neg e)
  ·by_cases e:b=a
   ·have z:=(if_pos e).symm.trans z;cases z;subst e;exact⟨ha,by rw[aR];exact hl,vs,_,rv,ha⟩
   ·have z:=(if_neg e).symm.trans z;cases z
  ·by_cases e:b=bm
   ·exact .inr e
   ·by_cases e2:b=a
    ·exact .inl e2
    ·exact absurd ((Go (H0:=λb=>if b=a then some (.frz {cls:=.type "list",data:=.seq vs.toArray} (.lst (ns.map V.int))) else none) hb e).trans (if_neg e2)) z
theorem walk_ofT{l:OpenLaw}{n k:Nat}{q:Program}{loose:List Str}{XP:(Str->Option Value)->Heap->Prop}{YP:World->Heap->Prop}{d:DefRec}{K:Params->Frag}{sp:World->Sp}{x:Str}{tabs:World->List Addr}{bm:Addr}
  (hn:l.most=some n) (hn2:n<=sizeLine) (hdf:d.params.defaults=[]) (hr:Room k callerA)
  (hY:∀(w:World) (h:Heap),YP w h->(K w.params).In h)
  (hTb:∀(w:World) (h:Heap) (mean:ExcName->Option Value) (mg mb:Str->Option Value),(K w.params).In h->Top q (looseW q loose) mean mg mb h->∀b∈tabs w,(isCodeTable h b/\h.get? b=some (tabObj #[]))/\(K w.params).lookup b=none)
  (hBm:∀(w:World) (h:Heap) (mg:Str->Option Value),(K w.params).In h->h.Ns mainGlobals mg->mg "__builtins__"=some (.ref bm)/\(K w.params).lookup bm=none)
  (F:∀(w:World) (mg:Str->Option Value) (fa:Addr) (h:Heap),(K w.params).In h->h.Ns mainGlobals mg->mg d.name=some (.ref fa)->
   ∃fd:FuncData,(∀(s:Shared) (u:Value),BindsTo s fd ⟨[u],[]⟩ [(x,u)])/\
    ∀base:Heap,(K w.params).In base->base.Ns mainGlobals mg->FnOk l.prog w (K w.params) mg base CX0 k fa fd [x] (sp w))
  (hsp:∀(w:World) (H:Hp) (a:Addr) (ns:List Int),ns.length<=n->axZ (tabs w) bm H->SqL (K w.params) H a (ns.map V.int)->sp w [.ref a] H (λv _=>v=.bl true) λ_ _ _=>False):
  WalkO q loose XP YP l.row.toRowW d [] (λf vs=>PySem.call f vs):=by
 refine Att.attach_call hn hdf λw s₀ s₁ mg mb fa o pm cd doc a vs ns G Y ho hd hcd hmg hobj hints hlen hg=>?_;have KX:=hY w _ Y;obtain⟨fd,hb,hF⟩:=F w mg fa _ KX G.T.g hmg;have hT:=hTb w _ _ _ _ KX G.T;obtain⟨bm',ob,a1,a2,a3,a4,a5,a6⟩:=G.T.bmain;obtain⟨c1,c2⟩:=hBm w _ _ KX G.T.g;rw[c1] at a1;cases a1;exact azD KX G.T.g G.T.b G.T.builtins G.T.nolimit hg (λb hb=>(hT b hb).1) (λb hb=>(hT b hb).2) a3 c2 a4 a5 a6 hobj hints (bL hlen hn2) hr hF hb λH hO hS=>hsp w H a ns hlen hO hS
theorem aEZ{K:Frag}{mg:Str->Option Value}{h:Heap}{c Pt bm:Addr}{od:Option Addr}{sl:Array (Option Value)}{v0 v1 v2 v3 v4 v5 v6 v8 v12 v13 v14 v15 v16 v17:Value}{fl tx:Int}{tg tt tf:Tok}{inF:Bool}{file:Str}(X:K.In h)(G:h.Ns mainGlobals mg)
  (l:K.lookup c=some ⟨.type "code",od,.fields #[v0,v1,v2,v3,v4,v5,v6,.int fl tg,v8,.bool inF,.int tx tt,.ref Pt,v12,v13,v14,v15,v16,v17,.str file tf],sl⟩) (ne:c≠Pt)
  (b1:nsIn K mainGlobals "__builtins__"=some (some (.ref bm))) (b2:bm≠builtinsNs):Host K mg c Pt bm:=
 ⟨λh' X'=>⟨_,_,file,tf,fl,tg,inF,tx,tt,X' _ _ l,rfl,rfl,rfl,rfl,rfl,rfl,rfl,rfl,ne⟩,mg_of X G b1,b2⟩
section
variable{X:Cx}{k:Nat}{o i value:Expr}{td ty tv:TE}{pos pos':Pos}
theorem tDnt(hr:Room k X.A)(hi:E X i ty)(ho:E X o td)(hm:behindInMarks .NotIn o=false:=by rfl):T X (.Compare i [.NotIn] [o] pos) (L2.tB (ax9 ty td)):=⟨aJZ (az7 (ag6 hr) hi.h ho.h) hm⟩
theorem sDpt(hr:Room k X.A)(ho:E X o td)(hi:E X i ty)(hv:E X value tv)(hs:swapsWith value (some (.Subscript o i pos')) pos.line X.env=pure false:=by rfl):S X (.Assign [.Subscript o i pos'] value pos) (aG0 td ty tv):=⟨aFM (ag6 hr) ho.h hi.h hv.h hs⟩
end
end L2
namespace L2
open PySem PySem.Spec PyProof.Rows PySem.SeqAt
section
variable{X:Cx}
theorem ajQ{h:Heap}:∀{ws:List (List Nat)} {us:List Value},Vals (ws.map λq=>V.str (Tx q)) us->ReadsAll h us (ws.map λq=>PyData.str (Tx q)) []
 |[],_,.nil=>.nil
 |w::ws,_,.cons r t=>by
  obtain⟨k,rfl⟩:=r;have:=ReadsAll.cons (Reads.str (h:=h) (Tx w) k) (ajQ (h:=h) t);simpa using this
def Asc(l:List Nat):Prop:=∀c∈l,c<128
theorem aIP{l:List Nat}(h:Asc l):PyData.strOk (Tx l)=true:=by
 unfold PyData.strOk;show l.toArray.all (λa=>decide (a<1114112))=true;rw[List.all_toArray,bV];intro c hc;exact eZ (Nat.lt_trans (h c hc) (by decide))
theorem ayK:∀ws:List (List Nat),(∀w∈ws,Asc w)->PyData.canLayAll0 (ws.map λq=>PyData.str (Tx q))=true
 |[],_=>by simp[PyData.canLayAll0]
 |w::r,h=>by
  simp only[bG,PyData.canLayAll0,PyData.canLay0,ayK r λv hv=>h v (bF _ hv),aIP (h w bE)];rfl
theorem aD5:∀ws:List (List Nat),PyData.depthAll (ws.map λq=>PyData.str (Tx q))<=1
 |[]=>by simp[PyData.depthAll]
 |_::r=>by
  have:=aD5 r;simp only[bG,PyData.depthAll,PyData.depth];omega
theorem awU{ws:List (List Nat)}(h:∀w∈ws,Asc w):shaped (.list (ws.map λq=>PyData.str (Tx q)))=true:=by
 have h1:=aD5 ws;have h2:PyData.depth (.list (ws.map λq=>PyData.str (Tx q)))<=64:=by simp only[PyData.depth];omega
 show (PyData.canLay0 (.list (ws.map λq=>PyData.str (Tx q)))&&decide (PyData.depth (.list (ws.map λq=>PyData.str (Tx q)))<=64))=true;rw[bH];exact⟨by simp only[PyData.canLay0];exact ayK ws h,eZ h2⟩
theorem aA0:∀ws vs:List (List Nat),noMixAll (ws.map λq=>PyData.str (Tx q)) (vs.map λq=>PyData.str (Tx q))=true
 |[],[]=>by simp[noMixAll]
 |[],_::_=>by simp[noMixAll]
 |_::_,[]=>by simp[noMixAll]
 |_::r,_::q=>by simp[noMixAll,noMix,aA0 r q]
theorem aHI:∀ws vs:List (List Nat),PySem.Spec.sameAll (ws.map λq=>PyData.str (Tx q)) (vs.map λq=>PyData.str (Tx q))=decide (ws=vs)
 |[],[]=>by simp[PySem.Spec.sameAll]
 |[],_::_=>by simp[PySem.Spec.sameAll]
 |_::_,[]=>by simp[PySem.Spec.sameAll]
 |a::r,b::q=>by
  simp only[bG,PySem.Spec.sameAll,PySem.Spec.same,aHI r q];by_cases h1:a=b
  ·subst h1;simp
  ·have:¬Tx a=Tx b:=λe=>h1 (Tx_inj.mp e);simp[h1,this]
theorem aNG(hu:X.A.units+64<cLine):Op2 X (compareOp .Eq) (λx y H Q=>∃(a b:Addr) (ws vs:List (List Nat)),x=.ref a/\y=.ref b/\SqL X.K H a (ws.map λq=>V.str (Tx q))/\SqL X.K H b (vs.map λq=>V.str (Tx q))/\(∀w∈ws,Asc w)/\(∀w∈vs,Asc w)/\Q (.bl (decide (ws=vs))) H):=by
 refine⟨λpins s σ H x y v u Q I rx ry h=>?_⟩;obtain⟨a,b,ws,vs,rfl,rfl,ha,hb,a1,a2,q⟩:=h;cases rx;cases ry;obtain⟨its,rv,pl,_⟩:=I.list ha;obtain⟨its',rv',pl',_⟩:=I.list hb;obtain⟨o,ho,hc,n,hd⟩:=pl.isList;obtain⟨o',ho',hc',n',hd'⟩:=pl'.isList;exact eq_dataH_same (da:=.list (ws.map λq=>PyData.str (Tx q))) (db:=.list (vs.map λq=>PyData.str (Tx q))) (Reads.list ho hc hd (by simpa using ajQ rv)) (Reads.list ho' hc' hd' (by simpa using ajQ rv')) (awU a1) (awU a2) hu (by simp only[noMix];exact aA0 ws vs)
  (by show EP X pins σ Q (.bool (same (.list _) (.list _))) s;simp only[same];rw[aHI];exact⟨.bl _,H,I,rfl,q⟩)
theorem oEqE(hu:X.A.units+64<cLine):Op2 X (compareOp .Eq) (λx y H Q=>∃(a b:Addr) (vs:List V),x=.ref a/\y=.ref b/\SqL X.K H a vs/\SqL X.K H b []/\Q (.bl (decide (vs=[]))) H):=by
 refine⟨λpins s σ H x y v u Q I rx ry h=>?_⟩;obtain⟨a,b,vs,rfl,rfl,ha,hb,q⟩:=h;cases rx;cases ry;obtain⟨its,rv,pl,_⟩:=I.list ha;obtain⟨its',rv',pl',_⟩:=I.list hb;cases rv';have e:=rv.length;cases vs with
 |nil=>
  cases rv;refine SeqAt.RcAt.lists (e:=λ_=>true) pl.isList pl'.isList rfl ⋯ (λi h1 h2=>SeqAt.EqAt.same _) _ _ _ _ ?_;exact⟨.bl true,H,I,by show Value.bool _=Value.bool true;congr 1,q⟩
 |cons v0 vs=>
  refine SeqAt.RcAt.lists_lengths pl.isList pl'.isList (by rw[bI,←e];rfl) ⋯ _ _ _ _ ?_;exact⟨.bl false,H,I,rfl,q⟩
end
end L2
namespace L2
open PySem PySem.Spec PyProof.Rows PySem.SeqAt
section
variable{js:List Nat}{σ:St}{tt:TT}{te:TE}{Q:VK}{H1:Hp}
variable{X:Cx}
end
theorem ssL{X:Cx}{st:Stmt}{rest:List Stmt}{t u:TS}(h1:S X st t)(h2:Ss X rest u):Ss X (st::rest) (let r:=u;aF6 t r):=ssC h1 h2
theorem ai1{X:Cx}{st:Stmt}{rest:List Stmt}{t u:TS}(h1:S X st t)(h2:Ss X rest u):Ss X (st::rest) (let r:=u;aQR t r):=ssK h1 h2
theorem aoN{J:It}{js:List Nat}{σ:St}{tt:TT}{te:TE}{Q:VK}{H1:Hp}(h:as1 J js σ tt te Q H1):awQ J 1 js (ab8 0) σ tt te Q H1:=by
 intro D hD;obtain⟨W,h0,hs⟩:=h D hD;refine⟨W,h0,λi m H2 w=>?_⟩;rcases hs i m H2 w with z | ⟨hg,z⟩
 ·exact .inl z
 ·refine .inr ⟨hg,λv H3 y τ hτ=>?_⟩;obtain⟨u,rfl⟩:∃u,τ=[u]:=List.length_eq_one_iff.mp hτ;exact⟨⟨[some v],rfl,rfl⟩,z v H3 y⟩
section
variable{X:Cx}{elt iter:Expr}{x y:Str}{px py pos spos:Pos}{ifs:List Expr}{scope:Scope}{N':List Str}{js:List Nat}{tt:TT}{te:TE}{wi:TI}
theorem aDZ{cl:List (Str×Addr)}{C:Addr}{ex:List Addr}{pins:List (Addr×Obj)}{s:Shared}{H:Hp}(hx:scope.names.lookup x=some .local)(hnd:(x::N').Nodup):Gt (aa6 X ([x]++N') scope cl C ex pins s H) (.Name x px) (ab8 0):=by
 have hl:(relabel scope X.env).names.lookup x=some .local:=by rw[ad5,hx];rfl
 exact⟨axK hnd rfl (.inl hl) (.inr hl)⟩
theorem ajR(N':List Str)(js:List Nat)(hi:Il X (.Name x px) iter wi)
  (ht:∀(cl:List (Str×Addr)) (C:Addr) (ex:List Addr) (pins:List (Addr×Obj)) (s:Shared) (H:Hp),Fs (aa6 X (x::N') scope cl C ex pins s H) ifs tt)
  (he:∀(cl:List (Str×Addr)) (C:Addr) (ex:List Addr) (pins:List (Addr×Obj)) (s:Shared) (H:Hp),E (aa6 X (x::N') scope cl C ex pins s H) elt te)
  (hcl:∃cl,Clos X scope cl:=by exact arR rfl rfl rfl rfl) (hx:scope.names.lookup x=some .local:=by rfl) (hnd:(x::N').Nodup:=by decide +kernel) (hN:js.map (λj=>X.N[j]?)=N'.map some:=by rfl)
  (hk:N'.all (λy=>(X.env.kindOf y==some .cell)||(X.env.kindOf y==some .free))=true:=by rfl) (hf:N'.all (λy=>scope.names.lookup y==some .free)=true:=by rfl) (hc:X.calm=true:=by rfl)
  (hs:∀x,foldedSetIterable iter X.env x=pure x:=by intro _;rfl):E X (.ListComp elt [⟨.Name x px,iter,ifs,0⟩] scope pos) (aHR wi js tt te):=by
 obtain⟨cl,hcl⟩:=hcl;refine⟨λpins s σ H Q I h=>?_⟩;rw[eval_ListComp];refine wpAny_comprehension_free (use:=none) rfl hs hcl.is hcl.kind hcl.names (thn (hi.h pins s σ H _ I h) λxv s₁ h₁=>thn h₁ λitv s₂ h₂=>?_);obtain⟨it,fp,tn,J,H2,rfl,I2,T,st,hfp,q⟩:=h₂;refine afG (xs:=[x]) (g:=ab8 0) (RR:=λacc C=>compPost (model X.prog X.w) X.A X.xe none (EP X pins σ Q) acc C) hcl hnd hN hk hf hc (λ_ _ _ _ _=>(aDZ hx hnd).h) (λC ex pins s H=>(ht cl C ex pins s H).h) (λC ex pins s H=>(he cl C ex pins s H).h) I2 T st hfp (aoN q) ?_
 intro D C s' H' m I' hC0 hCL hCs hCc hCp hn hq;refine⟨m,hn,λh' sb=>⟨.ref D,H',?_,rfl,hq⟩⟩;exact I'.turned (t':=s'.toks) (λb o hb e=>(sb.2 b hb).trans e) hC0 hCL (.inr hCs) hCc hCp
theorem aBH(i:Nat)(N':List Str)(js:List Nat)(hi:Il X (.Name x px) iter wi)
  (ht:∀(cl:List (Str×Addr)) (C:Addr) (ex:List Addr) (pins:List (Addr×Obj)) (s:Shared) (H:Hp),Fs (aa6 X (x::N') scope cl C ex pins s H) ifs tt)
  (he:∀(cl:List (Str×Addr)) (C:Addr) (ex:List Addr) (pins:List (Addr×Obj)) (s:Shared) (H:Hp),E (aa6 X (x::N') scope cl C ex pins s H) elt te)
  (hXN:X.N.Nodup) (hsw:swapsWith (.ListComp elt [⟨.Name x px,iter,ifs,0⟩] scope pos) (some (.Name y py)) spos.line X.env=pure true:=by rfl)
  (hiN:X.N[i]? =some y:=by rfl) (hy:X.env.scope.names.lookup y=some .local:=by rfl)
  (hcl:∃cl,Clos X scope cl:=by exact arR rfl rfl rfl rfl) (hx:scope.names.lookup x=some .local:=by rfl) (hnd:(x::N').Nodup:=by decide +kernel) (hN:js.map (λj=>X.N[j]?)=N'.map some:=by rfl)
  (hk:N'.all (λy=>(X.env.kindOf y==some .cell)||(X.env.kindOf y==some .free))=true:=by rfl) (hf:N'.all (λy=>scope.names.lookup y==some .free)=true:=by rfl) (hc:X.calm=true:=by rfl)
  (hs:∀x,foldedSetIterable iter X.env x=pure x:=by intro _;rfl):S X (.Assign [.Name y py] (.ListComp elt [⟨.Name x px,iter,ifs,0⟩] scope pos) spos) (ayR (aHR wi js tt te) (ab8 i)):=by
 obtain⟨cl,hcl⟩:=hcl;refine⟨λpins s σ H D I h=>?_⟩;rw[exec_Assign_Name_used _ _ _ _ hsw];refine eP (wpAny_standAt (eP ?_));show wpAny _ X.A (do let _ ←comprehension (.ListComp elt [⟨.Name x px,iter,ifs,0⟩] scope pos) scope X.env _ (newList []) false (eval iter X.env) (some (assign (.Name y py) X.env))) _ _ s
 refine eP (eQ (wpAny_comprehension_free (use:=some (assign (.Name y py) X.env)) (Q:=λ_ s'=>SP X pins D .next s') rfl hs hcl.is hcl.kind hcl.names ?_) (λ_ s' hq=>fF (fF hq)) λ_ _ z=>z);refine thn (hi.h pins s σ H _ I h) λxv s₁ h₁=>thn h₁ λitv s₂ h₂=>?_;obtain⟨it,fp,tn,J,H2,rfl,I2,T,st,hfp,q⟩:=h₂;refine afG (xs:=[x]) (g:=ab8 0) (Q:=λv H'=>D.nx (σ.set i (some v)) H') (RR:=λacc C=>compPost (model X.prog X.w) X.A X.xe (some (assign (.Name y py) X.env)) (λ_ s'=>SP X pins D .next s') acc C) hcl hnd hN hk hf hc (λ_ _ _ _ _=>(aDZ hx hnd).h) (λC ex pins s H=>(ht cl C ex pins s H).h) (λC ex pins s H=>(he cl C ex pins s H).h) I2 T st hfp (aoN q) ?_
 intro D' C s' H' m I' hC0 hCL hCs hCc hCp hn hq;show wpAny _ _ (assign (.Name y py) X.env (.ref D')) _ _ s';refine wpAny_assign_Name (aoV I' hXN hiN (.inl hy) (v:=.ref D') rfl (λs3 I3 sb3=>?_) (.inr hy));obtain⟨a3,sb3,e3⟩:=sb3;have hCa:C≠a3:=by
  rcases e3 with e3 | e3
  ·rw[e3];exact hCL
  ·exact λz=>hCc y a3 e3 z.symm
 refine⟨m,hn.sameBut sb3 hCa,λh' sb=>⟨σ.set i (some (.ref D')),H',?_,hq⟩⟩;exact I3.turned (t':=s3.toks) (λb o hb e=>(sb.2 b hb).trans e) hC0 hCL (.inr hCs) hCc hCp
variable{e e1 e2 e3:Expr}{t t1 t2 t3:TE}
theorem A1(h:E X e t)(he':starEach (e::[]) X.env=(false,eval e X.env)::starEach [] X.env:=by rfl):As X [e] (acV t aiM):=aC h aN he'
theorem A2(h1:E X e1 t1)(h2:E X e2 t2)(he1':starEach (e1::[e2]) X.env=(false,eval e1 X.env)::starEach [e2] X.env:=by rfl)(he2':starEach (e2::[]) X.env=(false,eval e2 X.env)::starEach [] X.env:=by rfl):As X [e1,e2] (acV t1 (acV t2 aiM)):=aC h1 (aC h2 aN he2') he1'
theorem A3(h1:E X e1 t1)(h2:E X e2 t2)(h3:E X e3 t3)(he1':starEach (e1::[e2,e3]) X.env=(false,eval e1 X.env)::starEach [e2,e3] X.env:=by rfl)(he2':starEach (e2::[e3]) X.env=(false,eval e2 X.env)::starEach [e3] X.env:=by rfl)(he3':starEach (e3::[]) X.env=(false,eval e3 X.env)::starEach [] X.env:=by rfl):As X [e1,e2,e3] (acV t1 (acV t2 (acV t3 aiM))):=aC h1 (aC h2 (aC h3 aN he3') he2') he1'
end
noncomputable def Y0{X x pos}:=@v_ X x pos 0
noncomputable def Y1{X x pos}:=@v_ X x pos 1
noncomputable def Y2{X x pos}:=@v_ X x pos 2
noncomputable def Y3{X x pos}:=@v_ X x pos 3
noncomputable def Y4{X x pos}:=@v_ X x pos 4
noncomputable def Y5{X x pos}:=@v_ X x pos 5
noncomputable def Y6{X x pos}:=@v_ X x pos 6
noncomputable def Y7{X x pos}:=@v_ X x pos 7
noncomputable def Y8{X x pos}:=@v_ X x pos 8
noncomputable def Y9{X x pos}:=@v_ X x pos 9
end L2
namespace L2
noncomputable def iv(σ:St)(i:Nat):Int:=match σ[i]? with
 |some (some (.int n))=>n
 |_=>0
end L2
namespace L2
open PySem PySem.Spec PyProof.Rows
abbrev Dx(P:Program)(w:World)(base:Heap){K:PySem.W.Frag}{mg:Str->Option Value}{x:Str}{st:Stmt}{ps:List Str}(_:Fn K mg x st ps)(k:Nat)(sp:Sp):Prop:=Df P w K mg base x k ps sp
abbrev Dm(P:Program)(w:World)(mg:Str->Option Value)(base:Heap){K:PySem.W.Frag}{C:Addr}{m q:Str}{st:Stmt}{ps:List Str}(_:FnM K C m q st ps)(k:Nat)(sp:Sp):Prop:=DfM P w K mg base C m k ps sp
end L2
namespace K51
open PySem PySem.Spec PyProof.Rows L2 KM
noncomputable def top(i:Nat):Stmt:=PySem.Challenge.pw_fivefields_k51_next_walked.main.body.getD i (.Pass ⟨0,0,0,0⟩)
noncomputable abbrev aj8:Stmt:=abB (top 82) 0
noncomputable abbrev adC:Stmt:=abB (top 83) 0
noncomputable abbrev afE:Stmt:=abB (top 83) 1
noncomputable abbrev abF:Stmt:=abB (top 84) 0
noncomputable abbrev akR:Stmt:=abB (top 84) 1
noncomputable abbrev aeZ:Stmt:=abB (top 85) 0
noncomputable abbrev akP:Stmt:=abB (top 85) 1
noncomputable abbrev aeT:Stmt:=abB (top 86) 0
noncomputable abbrev acU:Stmt:=abB (top 87) 0
noncomputable abbrev aeO:Stmt:=abB (top 87) 1
noncomputable abbrev afQ:Stmt:=abB (top 88) 0
noncomputable abbrev anJ:Stmt:=abB (top 88) 1
noncomputable abbrev adF:Stmt:=abB (top 89) 0
noncomputable abbrev afJ:Stmt:=abB (top 89) 1
noncomputable abbrev afW:Stmt:=abB (top 108) 0
noncomputable abbrev agZ:Stmt:=abB (top 108) 5
noncomputable abbrev agM:Stmt:=abB (top 108) 8
noncomputable abbrev agY:Stmt:=abB (top 108) 6
noncomputable def aa2(y:Int):Bool:=decide (y%4=0)&&(!decide (y%100=0)||decide (y%400=0))
noncomputable def mb(y s:Int):Int:=(y+s-1) / s
noncomputable def db(y:Int):Int:=365*y+(mb y 4-mb y 100+mb y 400)
noncomputable def lasts:List Int:=[31,28,31,30,31,30,31,31,30,31,30,31]
noncomputable def ab3(y:Int):Int:=if aa2 y=true then 1 else 0
noncomputable def aaF(y m:Int):Int:=if m=2 then 28+ab3 y else lasts.getD (m-1).toNat 0
theorem ad4(y:Int):aa2 y=true↔(y%4=0/\(y%100≠0∨y%400=0)):=by
 unfold aa2;simp
theorem asE{y:Int}(h:y%4=0/\(y%100≠0∨y%400=0)):aa2 y=true:=(ad4 y).mpr h
theorem as4{y:Int}(h:¬(y%4=0/\(y%100≠0∨y%400=0))):aa2 y=false:=by
 cases e:aa2 y
 ·rfl
 ·exact absurd ((ad4 y).mp e) h
theorem afF(y:Int):0<=ab3 y/\ab3 y<=1:=by
 unfold ab3;split<;>omega
theorem aj7(y:Int):db y=365*y+((y+3) / 4-(y+99) / 100+(y+399) / 400):=by
 have e1:y+4-1=y+3:=⋯;have e2:y+100-1=y+99:=⋯;have e3:y+400-1=y+399:=⋯;unfold db mb;rw[e1,e2,e3]
theorem aQG(y q:Int):db (y+400*q)=db y+146097*q:=by rw[aj7,aj7];omega
theorem aJ5(y q:Int):ab3 (y+400*q)=ab3 y:=by
 have e:aa2 (y+400*q)=aa2 y:=by
  unfold aa2;rw[show (y+400*q)%4=y%4 by omega,show (y+400*q)%100=y%100 by omega,show (y+400*q)%400=y%400 by omega]
 unfold ab3;rw[e]
theorem db_y:∀r:Nat,r<400->db ((r:Int)+1)-db (r:Int)=365+ab3 (r:Int):=by decide +kernel
theorem aeA(y:Int):db (y+1)-db y=365+ab3 y:=by
 have z:=db_y (y%400).toNat ⋯;obtain⟨q,e⟩:∃q,y=((y%400).toNat:Int)+400*q:=⟨y / 400,⋯⟩;generalize ((y%400).toNat:Int)=r at z e;rw[e,show r+400*q+1=r+1+400*q by omega,aQG,aQG,aJ5];omega
theorem ah5{m:Int}(h1:1<=m)(h2:m<=12):atI (lasts.map V.int) (m-1)=some (V.int (lasts.getD (m-1).toNat 0)):=by
 have hk:(m-1).toNat<12:=⋯;have e:m-1=(((m-1).toNat:Nat):Int):=⋯;rw[e];refine ahQ ?_;rw[bP];generalize (m-1).toNat=j at hk
 match j,hk with
 |0,_ | 1,_ | 2,_ | 3,_ | 4,_ | 5,_ | 6,_ | 7,_ | 8,_ | 9,_ | 10,_ | 11,_=>rfl
 |n+12,h=>exact absurd h ⋯
noncomputable def ahN(y:Int):Nat->Int
 |0=>0
 |n+1=>ahN y n+aaF y ((n:Int)+1)
noncomputable def ahead(y m:Int):Int:=ahN y (m-1).toNat
theorem adD{y m:Int}(h:1<=m):ahead y (m+1)=ahead y m+aaF y m:=by
 have e:(m+1-1).toNat=(m-1).toNat+1:=⋯;have e2:(((m-1).toNat:Nat):Int)+1=m:=⋯;unfold ahead;rw[e];show ahN y (m-1).toNat+aaF y (((m-1).toNat:Int)+1)=_;rw[e2]
theorem aiF(y:Int):ahead y 13=365+ab3 y:=by
 show 0+aaF y 1+aaF y 2+aaF y 3+aaF y 4+aaF y 5+aaF y 6+aaF y 7+aaF y 8+aaF y 9+aaF y 10+aaF y 11+aaF y 12=_;have e2:aaF y 2=28+ab3 y:=rfl;rw[e2];show 0+31+(28+ab3 y)+31+30+31+30+31+31+30+31+30+31=_;omega
theorem apO{y m:Int}(h1:1<=m)(h2:m<=12):28<=aaF y m:=by
 have hl:=afF y;unfold aaF;split
 ·omega
 ·have hk:(m-1).toNat<12:=⋯;generalize (m-1).toNat=j at hk
  match j,hk with
  |0,_ | 1,_ | 2,_ | 3,_ | 4,_ | 5,_ | 6,_ | 7,_ | 8,_ | 9,_ | 10,_ | 11,_=>decide
  |n+12,h=>exact absurd h ⋯
theorem aw9(y:Int):∀n:Nat,((List.range n).map λi:Nat=>aaF y (1+(i:Int))).sum=ahN y n
 |0=>rfl
 |n+1=>by
  rw[ao8,List.sum_append,aw9 y n];show ahN y n+(aaF y (1+(n:Int))+0)=ahN y n+aaF y ((n:Int)+1);rw[Int.add_comm 1 (n:Int),Int.add_zero]
noncomputable def anG(k:Int):List Int:=if k / 7=12 then [2,29,k%7] else [k / 7+1,aaF 1 (k / 7+1),k%7]
noncomputable def mnA(k:Int):Int:=if k / 7=12 then 2 else k / 7+1
noncomputable def lnA(k:Int):Int:=if k / 7=12 then 29 else aaF 1 (k / 7+1)
theorem aiL(k:Int):anG k=[mnA k,lnA k,k%7]:=by
 unfold anG mnA lnA;split<;>rfl
theorem aGT:∀n:Nat,n<91->(1<=mnA n/\mnA n<=12)/\(28<=lnA n/\lnA n<=31):=by decide +kernel
theorem adJ{k:Int}(h0:0<=k)(h1:k<=90):(1<=mnA k/\mnA k<=12)/\Lf (lnA k) (k%7):=by
 have z:=aGT k.toNat ⋯;rw[bK h0] at z;exact⟨z.1,z.2,⋯,⋯⟩
def DVn(c:Cs)(D:Addr)(H:Hp)(v:V)(ko:Ko):Prop:=DV c H v ko/\∀p,v=.ref p->p≠D
theorem DVn.keep{c:Cs}{D:Addr}{H H':Hp}(s:Same H H'){v:V}{ko:Ko}(h:DVn c D H v ko):DVn c D H' v ko:=⟨h.1.keep s,h.2⟩
theorem DVn.upd{c:Cs}{D:Addr}{H:Hp}{l':List V}{v:V}:∀{ko:Ko},DVn c D H v ko->(∃l,H D=some (.lst l))->DVn c D (upd H D (.lst l')) v ko
 |none,h,_=>h
 |some ks,⟨⟨p,qs,e,h1,h2,h3⟩,hn⟩,⟨l,hl⟩=>⟨⟨p,qs,e,by rw[aaD (hn p e)];exact h1,h2.keepM (am9 hl),h3⟩,hn⟩
def RR(c:Cs)(m0 m1 m3:Int)(kd kw:Ko)(D:Addr)(i:Nat)(l:List V)(H:Hp):Prop:=match i with
 |0=>l=[]
 |1=>l=[.int m0]
 |2=>l=[.int m0,.int m1]
 |3=>∃dv,l=[.int m0,.int m1,dv]/\DVn c D H dv kd
 |4=>∃dv,l=[.int m0,.int m1,dv,.int m3]/\DVn c D H dv kd
 |_=>∃dv wv,l=[.int m0,.int m1,dv,.int m3,wv]/\DVn c D H dv kd/\DVn c D H wv kw
theorem RR.keep{c:Cs}{m0 m1 m3:Int}{kd kw:Ko}{D:Addr}{l:List V}{H H':Hp}(s:Same H H'):∀{i:Nat},RR c m0 m1 m3 kd kw D i l H->RR c m0 m1 m3 kd kw D i l H'
 |0,h=>h
 |1,h=>h
 |2,h=>h
 |3,⟨dv,e,h⟩=>⟨dv,e,h.keep s⟩
 |4,⟨dv,e,h⟩=>⟨dv,e,h.keep s⟩
 |_+5,⟨dv,wv,e,h,h'⟩=>⟨dv,wv,e,h.keep s,h'.keep s⟩
theorem RR.upd{c:Cs}{m0 m1 m3:Int}{kd kw:Ko}{D:Addr}{l l':List V}{H:Hp}(hl:∃l,H D=some (.lst l)):∀{i:Nat},RR c m0 m1 m3 kd kw D i l H->RR c m0 m1 m3 kd kw D i l (upd H D (.lst l'))
 |0,h=>h
 |1,h=>h
 |2,h=>h
 |3,⟨dv,e,h⟩=>⟨dv,e,h.upd hl⟩
 |4,⟨dv,e,h⟩=>⟨dv,e,h.upd hl⟩
 |_+5,⟨dv,wv,e,h,h'⟩=>⟨dv,wv,e,h.upd hl,h'.upd hl⟩
theorem aGJ{ws:List (List Nat)}(h:∀w∈ws,w≠[]):inV (.str (Tx [])) (ws.map λq=>V.str (Tx q))=false:=by
 unfold inV;rw[List.any_map,dC];intro w hw hc;have e:Tx w=Tx []:=beq_iff_eq.mp (show (Tx w==Tx [])=true from hc);exact h w hw (by have:=congrArg (λz=>z.cps.toList) e;simpa [Tx] using this)
noncomputable def acB(m0 m1:Int)(dv:V)(m3:Int)(wv:V)(tm:Int):List (Str×V):=aaT "time_mask" (.int tm) (aaT "weekday_marks" wv (aaT "month_mask" (.int m3) (aaT "day_marks" dv (aaT "hour_mask" (.int m1) (aaT "minute_mask" (.int m0) [])))))
theorem adY(m0 m1:Int)(dv:V)(m3:Int)(wv:V)(tm:Int):(acB m0 m1 dv m3 wv tm).lookup ("minute_mask":Str)=some (.int m0):=by
 unfold acB;rw[aaE,if_neg (by decide +kernel),aaE,if_neg (by decide +kernel),aaE,if_neg (by decide +kernel),aaE,if_neg (by decide +kernel),aaE,if_neg (by decide +kernel),aaE,if_pos rfl]
theorem ae6(m0 m1:Int)(dv:V)(m3:Int)(wv:V)(tm:Int):(acB m0 m1 dv m3 wv tm).lookup ("hour_mask":Str)=some (.int m1):=by
 unfold acB;rw[aaE,if_neg (by decide +kernel),aaE,if_neg (by decide +kernel),aaE,if_neg (by decide +kernel),aaE,if_neg (by decide +kernel),aaE,if_pos rfl]
theorem anF(m0 m1:Int)(dv:V)(m3:Int)(wv:V)(tm:Int):(acB m0 m1 dv m3 wv tm).lookup ("day_marks":Str)=some (dv):=by
 unfold acB;rw[aaE,if_neg (by decide +kernel),aaE,if_neg (by decide +kernel),aaE,if_neg (by decide +kernel),aaE,if_pos rfl]
theorem ae0(m0 m1:Int)(dv:V)(m3:Int)(wv:V)(tm:Int):(acB m0 m1 dv m3 wv tm).lookup ("month_mask":Str)=some (.int m3):=by
 unfold acB;rw[aaE,if_neg (by decide +kernel),aaE,if_neg (by decide +kernel),aaE,if_pos rfl]
theorem ag9(m0 m1:Int)(dv:V)(m3:Int)(wv:V)(tm:Int):(acB m0 m1 dv m3 wv tm).lookup ("weekday_marks":Str)=some (wv):=by
 unfold acB;rw[aaE,if_neg (by decide +kernel),aaE,if_pos rfl]
theorem amL(m0 m1:Int)(dv:V)(m3:Int)(wv:V)(tm:Int):(acB m0 m1 dv m3 wv tm).lookup ("time_mask":Str)=some (.int tm):=by
 unfold acB;rw[aaE,if_pos rfl]
theorem acQ(m0 m1:Int)(dv:V)(m3:Int)(wv:V)(tm:Int):(acB m0 m1 dv m3 wv tm).lookup ("days_in":Str)=none:=by
 unfold acB;rw[aaE,if_neg (by decide +kernel),aaE,if_neg (by decide +kernel),aaE,if_neg (by decide +kernel),aaE,if_neg (by decide +kernel),aaE,if_neg (by decide +kernel),aaE,if_neg (by decide +kernel)];rfl
theorem alD(m0 m1:Int)(dv:V)(m3:Int)(wv:V)(tm:Int):(acB m0 m1 dv m3 wv tm).lookup ("shut_by":Str)=none:=by
 unfold acB;rw[aaE,if_neg (by decide +kernel),aaE,if_neg (by decide +kernel),aaE,if_neg (by decide +kernel),aaE,if_neg (by decide +kernel),aaE,if_neg (by decide +kernel),aaE,if_neg (by decide +kernel)];rfl
theorem ak4(m0 m1:Int)(dv:V)(m3:Int)(wv:V)(tm:Int):(acB m0 m1 dv m3 wv tm).lookup ("on_days":Str)=none:=by
 unfold acB;rw[aaE,if_neg (by decide +kernel),aaE,if_neg (by decide +kernel),aaE,if_neg (by decide +kernel),aaE,if_neg (by decide +kernel),aaE,if_neg (by decide +kernel),aaE,if_neg (by decide +kernel)];rfl
def SV(b:Bool)(H:Hp)(v:V):Ko->Prop
 |none=>v=.non
 |some ks=>∃p us,v=.ref p/\H p=some (.lst (us.map V.ref))/\Ft (TpAt b H) us ks
theorem SV.keep{b:Bool}{H H':Hp}(s:Same H H'){v:V}:∀{ko:Ko},SV b H v ko->SV b H' v ko
 |none,h=>h
 |some _,⟨p,us,e,h1,h2⟩=>⟨p,us,e,s _ _ h1,h2.keepT s.keep⟩
theorem c42{a b:List Nat}(h1:42∉a)(h2:42∉b):42∉a++b:=λh=>(bO.mp h).elim h1 h2
theorem avX{b:Bool}:∀{ws:List (List Nat)} {ks:List Mk} {t:List Nat} {k:Mk},Ws b ws ks->Cl t/\SpT b t k->Ws b (ws++[t]) (ks++[k])
 |_,_,_,_,.nil,h=>.cons h .nil
 |_,_,_,_,.cons r t,h=>.cons r (avX t h)
theorem ac0{lo hi:Int}:∀{ws:List (List Nat)} {nss:List (List Int)},Paired (aeK lo hi) ws nss->(∀w∈ws,Cl w)/\(∀n∈nss.flatten,lo<=n/\n<=hi)/\nss.flatten.length<=64*ws.length
 |_,_,.nil=>⟨λw hw=>(nomatch hw),λn hn=>(nomatch hn),aQ _⟩
 |w::ws,ns::nss,.cons r t=>by
  obtain⟨h1,h2,h3⟩:=ac0 t;refine⟨λv hv=>?_,λn hn=>?_,?_⟩
  ·rcases aX.mp hv with z | z
   ·subst z;exact r.2.1
   ·exact h1 v z
  ·rw[dI] at hn;exact (bO.mp hn).elim (r.2.2.1 n) (h2 n)
  ·rw[dI,aY,bZ];have:=r.2.2.2.2;omega
theorem aFH{lo hi:Int}:∀{ws:List (List Nat)} {nss:List (List Int)},Paired (aeK lo hi) ws nss->ws≠[]->nss.flatten≠[]
 |_,_,.nil,h=>absurd rfl h
 |_,_,.cons r _,_=>λe=>r.2.2.2.1 (by rw[dI,List.append_eq_nil_iff] at e;exact e.1)
theorem ab4{α β:Type}{F:α->β->Prop}:∀{l:List α} {r:List β} {a:α} {b:β},Paired F l r->F a b->Paired F (l++[a]) (r++[b])
 |_,_,_,_,.nil,h=>.cons h .nil
 |_,_,_,_,.cons x t,h=>.cons x (ab4 t h)
theorem afV{b:Bool}{ko:Ko}{a l f:Int}(h:Lf l f)(o:∀ks,ko=some ks->∀k∈ks,k.ok)(ha:0<=a):0<=orO ko a l f:=by
 cases ko with
 |none=>exact ha
 |some ks=>exact aj6 ha (awF h (o ks rfl))
theorem aIK{a m:Int}{k:Nat}(ha:0<=a)(hk:a<2^k)(hm:0<=m):Builtin.bitOr a (m*2^k)=a+m*2^k:=by
 obtain⟨x,rfl⟩:=cH ha;obtain⟨y,rfl⟩:=cH hm;have e:((y:Int)*2^k)=((y*2^k:Nat):Int):=by rw[Int.natCast_mul,aa8]
 have hx:x<2^k:=by have:=aa8 k;omega
 rw[e,aqI,Nat.or_comm,←Nat.shiftLeft_eq,←Nat.shiftLeft_add_eq_or_of_lt hx,Nat.shiftLeft_eq];omega
noncomputable def tmF(h m:Int):Int:=orM ((at3 h).map λz=>m*2^(60*z).toNat)
theorem ax8{h m:Int}(hm:0<=m)(hm2:m<2^60):∀n:Nat,orM ((flt (tb h) 0 n).map λz=>m*2^(60*z).toNat)=((flt (tb h) 0 n).map λz=>m*2^(60*z).toNat).sum/\0<=((flt (tb h) 0 n).map λz=>m*2^(60*z).toNat).sum/\((flt (tb h) 0 n).map λz=>m*2^(60*z).toNat).sum<2^(60*n)
 |0=>by rw[amE];exact⟨rfl,aS 0,(by decide:(0:Int)<2^0)⟩
 |n+1=>by
  obtain⟨h1,h2,h3⟩:=ax8 hm hm2 n;have p60:(2:Int)^(60*(n+1))=2^(60*n)*2^60:=by rw[show 60*(n+1)=60*n+60 by omega,Int.pow_add]
  have p0:=aaN (60*n);cases c:tb h n
  ·rw[aq9 c,p60];refine⟨h1,h2,Int.lt_of_lt_of_le h3 ?_⟩;have:(2:Int)^(60*n)*1<=2^(60*n)*2^60:=Int.mul_le_mul_of_nonneg_left (by decide) (bN p0);omega
  ·have ez:(60*(0+(n:Int))).toNat=60*n:=⋯;have hb:(m+1)*2^(60*n)<=2^60*2^(60*n):=Int.mul_le_mul_of_nonneg_right ⋯ (bN p0);have hn2:0<=m*2^(60*n):=Int.mul_nonneg hm (bN p0);rw[apT c,bB,List.map_singleton,afC,List.sum_append,h1,ez,aIK h2 h3 hm,p60];rw[Int.add_mul,Int.mul_comm (2^60)] at hb;refine⟨by simp,?_,?_⟩
   ·show 0<=_+(m*2^(60*n)+0);omega
   ·show _+(m*2^(60*n)+0)<_;omega
theorem awZ{a b:Int}(h:a+1<=b):db (a+1)<=db b:=by rw[aj7,aj7];omega
theorem aJ6{q z:Int}(h:0<=z):db (q*400+z)<=146097*q+366*z:=by rw[aj7];omega
def OkD(y m k:Int):Prop:=(1<=m/\m<=12)/\1<=k/\k<=aaF y m
noncomputable def abY(y m k:Int):Int:=db y+ahead y m+k-1
theorem aAN(y:Int):∀(n d:Nat),n+d<=12->ahN y n<=ahN y (n+d)
 |_,0,_=>aS _
 |n,d+1,h=>by
  have h1:=aAN y n d ⋯;have h2:28<=aaF y (((n+d:Nat):Int)+1):=apO ⋯ ⋯;show ahN y n<=ahN y (n+d)+aaF y (((n+d:Nat):Int)+1);omega
theorem ah2{y m n:Int}(h1:1<=m)(h2:m<=n)(h3:n<=13):ahead y m<=ahead y n:=by
 have e:(n-1).toNat=(m-1).toNat+(n-m).toNat:=⋯;unfold ahead;rw[e];exact aAN y _ _ ⋯
theorem aCM{y m k:Int}(h:OkD y m k):db y<=abY y m k/\abY y m k<db (y+1)/\abY y m k<db y+ahead y (m+1):=by
 obtain⟨⟨h1,h2⟩,h3,h4⟩:=h;have a1:=adD (y:=y) h1;have a2:ahead y (m+1)<=ahead y 13:=ah2 ⋯ ⋯ ⋯;have a3:=aiF y;have a4:=aeA y;have a5:ahead y 1<=ahead y m:=ah2 ⋯ h1 ⋯;have a6:ahead y 1=0:=rfl;unfold abY;omega
theorem af6{y m k y' m' k':Int}(h:OkD y m k)(h':OkD y' m' k')(e:abY y m k=abY y' m' k'):y=y'/\m=m'/\k=k':=by
 have b:=aCM h;have b':=aCM h';have ey:y=y':=by
  rcases Int.lt_trichotomy y y' with z | z | z
  ·have:=awZ (a:=y) (b:=y') ⋯;omega
  ·exact z
  ·have:=awZ (a:=y') (b:=y) ⋯;omega
 subst ey;have em:m=m':=by
  rcases Int.lt_trichotomy m m' with z | z | z
  ·have:=ah2 (y:=y) (m:=m+1) (n:=m') (by have:=h.1.1;omega) ⋯ (by have:=h'.1.2;omega);have q1:=h'.2.1;have q2:abY y m' k'=db y+ahead y m'+k'-1:=rfl;omega
  ·exact z
  ·have:=ah2 (y:=y) (m:=m'+1) (n:=m) (by have:=h'.1.1;omega) ⋯ (by have:=h.1.2;omega);have q1:=h.2.1;have q2:abY y m k=db y+ahead y m+k-1:=rfl;omega
 subst em;unfold abY at e;exact⟨rfl,rfl,⋯⟩
noncomputable def plc(y m:Int):Int:=if m=2/\aa2 y=true then 12 else m-1
noncomputable def kindOf(y m:Int):Int:=7*plc y m+(db y+ahead y m+6)%7
theorem aA1{y m:Int}(h1:1<=m)(h2:m<=12):0<=plc y m/\plc y m<=12:=by
 unfold plc;split<;>omega
theorem ahH{y m:Int}(h1:1<=m)(h2:m<=12):0<=kindOf y m/\kindOf y m<=90:=by
 have:=aA1 (y:=y) h1 h2;unfold kindOf;omega
theorem apE{y m:Int}(h:¬m=2):aaF y m=lasts.getD (m-1).toNat 0:=by unfold aaF;rw[if_neg h]
theorem aDJ{y m:Int}(h1:1<=m)(h2:m<=12):anG (kindOf y m)=[m,aaF y m,kindOf y m%7]:=by
 have hp:=aA1 (y:=y) h1 h2;have e:kindOf y m / 7=plc y m:=by unfold kindOf;omega
 unfold anG;rw[e];by_cases c:m=2/\aa2 y=true
 ·have ep:plc y m=12:=by unfold plc;rw[if_pos c]
  have el:aaF y m=29:=by unfold aaF ab3;rw[if_pos c.1,if_pos c.2];rfl
  rw[ep,if_pos rfl,el,c.1]
 ·have ep:plc y m=m-1:=by unfold plc;rw[if_neg c]
  rw[ep,if_neg ⋯];have e1:m-1+1=m:=⋯;rw[e1];have el:aaF 1 m=aaF y m:=by
   by_cases c2:m=2
   ·have hl:¬aa2 y=true:=λz=>c ⟨c2,z⟩;unfold aaF ab3;rw[if_pos c2,if_pos c2,if_neg hl];rfl
   ·rw[apE c2,apE c2]
  rw[el]
theorem acH{y m:Int}(h1:1<=m)(h2:m<=12):mnA (kindOf y m)=m/\lnA (kindOf y m)=aaF y m:=by
 have e:=aDJ (y:=y) h1 h2;rw[aiL] at e;injection e with e1 e;injection e with e2 e;exact⟨e1,e2⟩
theorem apI{y m:Int}(h1:1<=m)(h2:m<=12):28<=aaF y m/\aaF y m<=31:=by
 have e:=acH (y:=y) h1 h2;have k:=ahH (y:=y) h1 h2;rw[←e.2];exact (adJ k.1 k.2).2.1
theorem atN(y r:Int):aa2 (y+400*r)=aa2 y:=by
 rw[c8,ad4,ad4];omega
theorem amY(y r m:Int):aaF (y+400*r) m=aaF y m:=by
 unfold aaF ab3;rw[atN]
theorem arE(y r:Int):∀n,ahN (y+400*r) n=ahN y n
 |0=>rfl
 |n+1=>by
  show ahN (y+400*r) n+aaF (y+400*r) ((n:Int)+1)=ahN y n+aaF y ((n:Int)+1);rw[arE y r n,amY]
theorem aAT(y r:Int):db (y+400*r)=db y+146097*r:=by rw[aj7,aj7];omega
theorem aFZ{y m k d r x:Int}(h:OkD y m k)(e:abY y m k=x)(ed:x+146097*r=d):OkD (y+400*r) m k/\abY (y+400*r) m k=d:=by
 refine⟨⟨h.1,h.2.1,by rw[amY];exact h.2.2⟩,?_⟩;have a:ahead (y+400*r) m=ahead y m:=arE y r _;unfold abY at e ⊢;rw[aAT,a];omega
noncomputable def shK(m0 m1 m3:Int)(kd kw:Ko)(d r y m k:Int):V:=
 if tb m3 m.toNat=false then .str (Tx [109,111,110,116,104]) else if tb (aaO kd kw (aaF y m) ((d-k+1+6)%7)) k.toNat=false then .str (Tx [100,97,121])
 else if tb m1 (r / 60).toNat=false then .str (Tx [104,111,117,114]) else if tb m0 (r%60).toNat=false then .str (Tx [109,105,110,117,116,101]) else .non
section
variable{m0 m1 m3:Int}{kd kw:Ko}{d r y m k:Int}
theorem sh1(h:tb m3 m.toNat=false):shK m0 m1 m3 kd kw d r y m k=.str (Tx [109,111,110,116,104]):=if_pos h
theorem sh2(h1:tb m3 m.toNat=true)(h:tb (aaO kd kw (aaF y m) ((d-k+1+6)%7)) k.toNat=false):shK m0 m1 m3 kd kw d r y m k=.str (Tx [100,97,121]):=by
 unfold shK;rw[if_neg (by rw[h1];decide),if_pos h]
theorem sh3(h1:tb m3 m.toNat=true)(h2:tb (aaO kd kw (aaF y m) ((d-k+1+6)%7)) k.toNat=true)(h:tb m1 (r / 60).toNat=false):shK m0 m1 m3 kd kw d r y m k=.str (Tx [104,111,117,114]):=by
 unfold shK;rw[if_neg (by rw[h1];decide),if_neg (by rw[h2];decide),if_pos h]
theorem sh4(h1:tb m3 m.toNat=true)(h2:tb (aaO kd kw (aaF y m) ((d-k+1+6)%7)) k.toNat=true)(h3:tb m1 (r / 60).toNat=true)(h:tb m0 (r%60).toNat=false):shK m0 m1 m3 kd kw d r y m k=.str (Tx [109,105,110,117,116,101]):=by
 unfold shK;rw[if_neg (by rw[h1];decide),if_neg (by rw[h2];decide),if_neg (by rw[h3];decide),if_pos h]
theorem sh5(h1:tb m3 m.toNat=true)(h2:tb (aaO kd kw (aaF y m) ((d-k+1+6)%7)) k.toNat=true)(h3:tb m1 (r / 60).toNat=true)(h:tb m0 (r%60).toNat=true):shK m0 m1 m3 kd kw d r y m k=.non:=by
 unfold shK;rw[if_neg (by rw[h1];decide),if_neg (by rw[h2];decide),if_neg (by rw[h3];decide),if_neg (by rw[h];decide)]
theorem aiC(hk:OkD y m k)(e:abY y m k=d):kindOf y m%7=(d-k+1+6)%7:=by
 unfold kindOf;unfold abY at e;omega
theorem asF(hk:OkD y m k):Lf (aaF y m) ((d-k+1+6)%7):=⟨apI hk.1.1 hk.1.2,⋯,⋯⟩
end
theorem abT{b:Bool}(h:¬b=false):b=true:=by simpa using h
theorem ahP{kd kw:Ko}{l f:Int}(h:Lf l f)(od:∀ks,kd=some ks->∀k∈ks,k.ok)(ow:∀ks,kw=some ks->∀k∈ks,k.ok):0<=aaO kd kw l f:=by
 unfold aaO;split
 ·have:=aaN l.toNat;have:(2:Int)^l.toNat ≥ 1:=⋯;omega
 ·exact afV (b:=true) h ow (afV (b:=false) h od (aS 0))
theorem apJ{c:Cs}{H:Hp}{v:V}:∀{ko:Ko},DV c H v ko->∀ks,ko=some ks->∀k∈ks,k.ok
 |some _,⟨_,_,_,_,_,h⟩,_,rfl=>h
theorem ax2{zs:List Int}{i:Int}(h0:0<=i)(h1:i<zs.length):∃z,atI (zs.map V.int) i=some (V.int z):=by
 have hk:i.toNat<zs.length:=⋯;have e:i=((i.toNat:Nat):Int):=⋯;rw[e];exact⟨zs[i.toNat],ahQ (by rw[bC,bW hk];rfl)⟩
noncomputable def tabA:List Nat:=[0,31,59,90,120,151,181,212,243,273,304,334]
noncomputable def adX(y:Nat):Nat:=(if (y%4==0&&(y%100 !=0||y%400==0))=true then 7 else 0)+(365*y+(y+3) / 4-(y+99) / 100+(y+399) / 400+6)%7
noncomputable def ah9(c m:Nat):Nat:=7*(if (Nat.beq m 1&&Nat.ble 7 c)=true then 12 else m)+(c%7+tabA.getD m 0+(if (Nat.ble 2 m&&Nat.ble 7 c)=true then 1 else 0))%7
noncomputable def avR(k:Nat):Nat:=if Nat.ble 84 k=true then 1 else k / 7
noncomputable def alY(k:Nat):Nat:=if Nat.ble 84 k=true then 40 else 12
noncomputable def codes:List Nat:=(List.range 440).map adX
noncomputable def aeX(k b:Nat):List Nat->Nat->Bool
 |[],_=>true
 |c::r,a=>if Nat.beq (ah9 c (avR k)) k=true then aeX k b r b else (Nat.ble 2 a&&aeX k b r (a-1))
theorem aBJ:∀k:Nat,k<91->aeX k (alY k) codes (alY k)=true:=by decide +kernel
theorem aw1{k b c a:Nat}{r:List Nat}(h:aeX k b (c::r) a=true):(ah9 c (avR k)=k/\aeX k b r b=true)∨(2<=a/\aeX k b r (a-1)=true):=by
 have h:(if Nat.beq (ah9 c (avR k)) k=true then aeX k b r b else (Nat.ble 2 a&&aeX k b r (a-1)))=true:=h;split at h
 ·rename_i q;exact .inl ⟨dM q,h⟩
 ·rw[bH] at h;exact .inr ⟨Nat.le_of_ble_eq_true h.1,h.2⟩
theorem aiT(k b:Nat)(hb:1<=b):∀(n:Nat) (l:List Nat) (a:Nat),1<=a->a<=b->aeX k b l a=true->∃a',1<=a'/\a'<=b/\aeX k b (l.drop n) a'=true
 |0,_,a,h0,h1,h=>⟨a,h0,h1,h⟩
 |n+1,[],a,h0,h1,_=>⟨a,h0,h1,rfl⟩
 |n+1,c::r,a,h0,h1,h=>by
  show ∃a',1<=a'/\a'<=b/\aeX k b (r.drop n) a'=true;rcases aw1 h with h | h
  ·exact aiT k b hb n r b hb (aQ _) h.2
  ·exact aiT k b hb n r (a-1) ⋯ ⋯ h.2
theorem atH(k b:Nat):∀(l:List Nat) (a:Nat),1<=a->a<=l.length->aeX k b l a=true->∃j,j<a/\∃c,l[j]? =some c/\ah9 c (avR k)=k
 |[],a,h0,h1,_=>absurd h1 (by simp;omega)
 |c::r,a,h0,h1,h=>by
  rcases aw1 h with h | h
  ·exact⟨0,⋯,c,rfl,h.1⟩
  ·have h1':a<=r.length+1:=h1;obtain⟨j,hj,c',e,q⟩:=atH k b r (a-1) ⋯ ⋯ h.2;exact⟨j+1,⋯,c',e,q⟩
theorem aI0{k:Nat}(hk:k<91){y:Nat}(hy:y<400):∃j,j<alY k/\ah9 (adX (y+j)) (avR k)=k:=by
 have hb:1<=alY k/\alY k<=40:=by unfold alY;split<;>omega
 obtain⟨a,a0,a1,h⟩:=aiT k (alY k) hb.1 y codes (alY k) hb.1 (aQ _) (aBJ k hk);have hl:codes.length=440:=by unfold codes;rw[aR,cJ]
 obtain⟨j,hj,c,e,q⟩:=atH k (alY k) _ a a0 (by rw[dH,hl];omega) h;unfold codes at e;rw[List.getElem?_drop,bC,List.getElem?_range ⋯] at e;have e:adX (y+j)=c:=aZ e;exact⟨j,⋯,by rw[e];exact q⟩
theorem aCN:∀r:Nat,r<400->∀m:Nat,m<12->kindOf (r:Int) ((m:Int)+1)=(ah9 (adX r) m:Nat):=by decide +kernel
theorem aCZ:∀a:Nat,a<440->adX (a%400)=adX a:=by decide +kernel
theorem auZ(y m q:Int):kindOf (y+400*q) m=kindOf y m:=by
 have a:ahead (y+400*q) m=ahead y m:=arE y q _;unfold kindOf plc;rw[atN,aAT,a];generalize ahead y m=A;generalize db y=B;have e:(B+146097*q+A+6)%7=(B+A+6)%7:=⋯;rw[e]
theorem y400(y:Int)(j:Nat):∃q:Int,y+j=((y%400).toNat+j:Nat)+400*q:=⟨y / 400,⋯⟩
theorem ai3(y:Int){j m:Nat}(hj:j<=40)(hm:m<12):kindOf (y+j) ((m:Int)+1)=(ah9 (adX ((y%400).toNat+j)) m:Nat):=by
 have r0:(y%400).toNat<400:=⋯;obtain⟨q,e⟩:=y400 y j;have ha:(y%400).toNat+j<440:=⋯;rw[e,auZ];generalize (y%400).toNat+j=a at ha;have e2:(a:Int)=((a%400:Nat):Int)+400*((a / 400:Nat):Int):=⋯;rw[e2,auZ,aCN _ (Nat.mod_lt _ (by decide)) m hm,aCZ a ha]
noncomputable def ae1(k:Int):Int:=if 83<k then 2 else k / 7+1
noncomputable def bnd(k:Int):Int:=if 83<k then 40 else 12
theorem auB{k:Int}(h0:0<=k)(h1:k<=90):1<=ae1 k/\ae1 k<=12:=by unfold ae1;split<;>omega
theorem aRW:∀k:Nat,k<91->ae1 (k:Int)=(avR k:Nat)+1/\avR k<12/\bnd (k:Int)=(alY k:Nat)/\alY k<=40:=by decide +kernel
theorem aoH{k:Int}(h0:0<=k)(h1:k<=90)(y:Int):∃j:Nat,(j:Int)<bnd k/\kindOf (y+j) (ae1 k)=k/\True:=by
 obtain⟨n,rfl⟩:∃n:Nat,k=n:=⟨k.toNat,⋯⟩;obtain⟨m1,m2,m3,m4⟩:=aRW n ⋯;obtain⟨j,hj,hit⟩:=aI0 (k:=n) ⋯ (show (y%400).toNat<400 by omega);exact⟨j,⋯,by rw[m1,ai3 y ⋯ m2,hit],trivial⟩
noncomputable def aaV(M:Int):Int:=db (M / 12)+ahead (M / 12) (M%12+1)
noncomputable def af8(M:Int):Int:=aaF (M / 12) (M%12+1)
noncomputable def aa5(M:Int):Int:=kindOf (M / 12) (M%12+1)
theorem abH(M:Int):aaV (M+1)=aaV M+af8 M:=by
 unfold aaV af8;by_cases c:M%12=11
 ·rw[show (M+1) / 12=M / 12+1 by omega,show (M+1)%12=0 by omega,c];have a1:=adD (y:=M / 12) (m:=12) (by decide);have a2:=aiF (M / 12);have a3:=aeA (M / 12);have a4:ahead (M / 12+1) (0+1)=0:=rfl;have e:(12:Int)+1=13:=rfl;have e':(11:Int)+1=12:=rfl;rw[e] at a1;rw[a4,e'];omega
 ·rw[show (M+1) / 12=M / 12 by omega,show (M+1)%12=M%12+1 by omega,adD ⋯];omega
theorem axQ{k:Int}(h0:0<=k)(h1:k<=90)(y:Int):∃N:Int,12*y<=N/\N<12*y+480/\aa5 N=k:=by
 obtain⟨j,hj,hk,_⟩:=aoH h0 h1 y;have hm:=auB h0 h1;have hb:bnd k<=40:=by unfold bnd;split<;>decide
 refine⟨12*(y+j)+ae1 k-1,⋯,⋯,?_⟩;unfold aa5;rw[show (12*(y+(j:Int))+ae1 k-1) / 12=y+j by omega,show (12*(y+(j:Int))+ae1 k-1)%12+1=ae1 k by omega];exact hk
theorem awE{k:Int}(h0:0<=k)(h1:k<=90)(M:Int):∃N:Int,M+1<=N/\N<=M+491/\aa5 N=k:=by
 obtain⟨N,a,b,c⟩:=axQ h0 h1 (M / 12+1);exact⟨N,⋯,⋯,c⟩
def akK(t:Int):Prop:=0<=t/\t<2^1440
noncomputable def mnN(g:Nat->Int):Nat->Int
 |0=>0
 |n+1=>Builtin.bitOr (mnN g n) (g n*2^(1440*n))
theorem avV{g:Nat->Int}:∀{n:Nat},(∀j,j<n->akK (g j))->0<=mnN g n
 |0,_=>aS 0
 |n+1,h=>aj6 (avV λj hj=>h j ⋯) (Int.mul_nonneg (h n ⋯).1 (bN (aaN _)))
theorem aCJ{g:Nat->Int}(i:Nat):∀{n:Nat},(∀j,j<n->akK (g j))->tb (mnN g n) i=(decide (i / 1440<n)&&tb (g (i / 1440)) (i%1440))
 |0,_=>by
  show tb 0 i=_;rw[aaQ,fC (dB _),cZ]
 |n+1,h=>by
  have h0:∀j,j<n->akK (g j):=λj hj=>h j ⋯;have hn:=h n ⋯;show tb (Builtin.bitOr (mnN g n) (g n*2^(1440*n))) i=_;rw[apH (avV h0) (Int.mul_nonneg hn.1 (bN (aaN _))),aCJ i h0,alW hn.1];rcases Nat.lt_trichotomy (i / 1440) n with c | c | c
  ·rw[eZ c,eZ (show i / 1440<n+1 by omega),fC (show ¬1440*n<=i by omega),cZ,Bool.or_false]
  ·rw[fC (show ¬i / 1440<n by omega),eZ (show i / 1440<n+1 by omega),eZ (show 1440*n<=i by omega),c,show i-1440*n=i%1440 by omega];rfl
  ·rw[fC (show ¬i / 1440<n by omega),fC (show ¬i / 1440<n+1 by omega),adI hn.2 (show 1440<=i-1440*n by omega),cM];rfl
structure Cal(S W:Int->Int):Prop where
 up:∀M,S M<S (M+1)
 nn:∀M,0<=W M
 bit:∀M i,tb (W M) i=true->(i:Int)<S (M+1)-S M
def Ev(S W:Int->Int)(t:Int):Prop:=∃M:Int,S M<=t/\t<S (M+1)/\tb (W M) (t-S M).toNat=true
variable{S W:Int->Int}
theorem Cal.le(h:Cal S W)(M:Int):∀n:Nat,S M<=S (M+n)
 |0=>by simp
 |n+1=>by
  have:=h.le M n;have:=h.up (M+n);rw[show M+((n+1:Nat):Int)=M+n+1 by omega];omega
theorem Cal.mono(h:Cal S W){M N:Int}(hl:M<=N):S M<=S N:=by
 have:=h.le M (N-M).toNat;rw[bK ⋯,show M+(N-M)=N by omega] at this;exact this
theorem Cal.uniq(h:Cal S W){M N t:Int}(h1:S M<=t)(h2:t<S (M+1))(h3:S N<=t)(h4:t<S (N+1)):M=N:=by
 rcases Int.lt_trichotomy M N with c | c | c
 ·have:=h.mono (show M+1<=N by omega);omega
 ·exact c
 ·have:=h.mono (show N+1<=M by omega);omega
theorem ayN(h:Cal S W){M mo:Int}{l:Nat}(none:∀t,mo<=t->t<S M->¬Ev S W t)(hl:tb (W M / 2^(max (mo-S M) 0).toNat) l=true)(hj:∀j,j<l->tb (W M / 2^(max (mo-S M) 0).toNat) j=false):
  Ev S W (S M+max (mo-S M) 0+l)/\mo<=S M+max (mo-S M) 0+l/\∀t,mo<=t->t<S M+max (mo-S M) 0+l->¬Ev S W t:=by
 generalize e:max (mo-S M) 0=p at hl hj ⊢;have hp:0<=p/\mo-S M<=p/\(p=0∨p=mo-S M):=⋯;rw[ad6 (h.nn M)] at hl;have hb:=h.bit M _ hl;refine⟨⟨M,⋯,⋯,?_⟩,⋯,?_⟩
 ·rw[show (S M+p+(l:Int)-S M).toNat=p.toNat+l by omega];exact hl
 ·intro t h1 h2 hE;rcases b9 t (S M) with c | c
  ·exact none t h1 c hE
  ·obtain⟨N,a1,a2,a3⟩:=hE;obtain rfl:=h.uniq c ⋯ a1 a2;have:=hj (t-S M-p).toNat ⋯;rw[ad6 (h.nn M),show p.toNat+(t-S M-p).toNat=(t-S M).toNat by omega,a3] at this;cases this
theorem avW(h:Cal S W){M mo:Int}(none:∀t,mo<=t->t<S M->¬Ev S W t)(hz:W M / 2^(max (mo-S M) 0).toNat=0):∀t,mo<=t->t<S (M+1)->¬Ev S W t:=by
 intro t h1 h2 hE;rcases b9 t (S M) with c | c
 ·exact none t h1 c hE
 ·obtain⟨N,a1,a2,a3⟩:=hE;obtain rfl:=h.uniq c h2 a1 a2;generalize e:max (mo-S M) 0=p at hz;have hp:0<=p/\mo-S M<=p/\(p=0∨p=mo-S M):=⋯;have z:=ad6 (h.nn M) p.toNat (t-S M-p).toNat;rw[hz,aaQ,show p.toNat+(t-S M-p).toNat=(t-S M).toNat by omega,a3] at z;cases z
theorem at4{A:Int->Prop}(hA:∀M,A M->W M=0)(hk:∀M,∃N,A N/\W M=W N):∀t,¬Ev S W t:=by
 rintro t ⟨M,_,_,h⟩;obtain⟨N,a,e⟩:=hk M;rw[e,hA N a,aaQ] at h;cases h
theorem aD9{c d m:Int}(hc:0<=c)(hd:0<=d)(hm:0<=m)(h0:∀i,(tb c i&&tb d i)=false)(h1:∀i,(tb c i||tb d i)=tb m i):c+d=m:=by
 have ea:Builtin.bitAnd c d=0:=abR (aiU hc hd) (aS 0) λi=>by rw[adQ hc hd,h0,aaQ]
 have eo:Builtin.bitOr c d=m:=abR (aj6 hc hd) hm λi=>by rw[apH hc hd,h1]
 rw[←eo,bitOr_and,ea];omega
theorem aB7{m:Int}(h:0<m):∃k,tb m k=true/\∀j,j<k->tb m j=false:=by
 have hex:∃i,tb m i=true:=by
  cases Classical.em (∃i,tb m i=true) with
  |inl z=>exact z
  |inr z=>
   have:m=0:=abR ⋯ (aS 0) λi=>by
    rw[aaQ];cases e:tb m i with
    |false=>rfl
    |true=>exact absurd ⟨i,e⟩ z
   omega
 obtain⟨i,hi⟩:=hex;have key:∀n i,i<=n->tb m i=true->∃k,tb m k=true/\∀j,j<k->tb m j=false:=by
  intro n;induction n with
  |zero=>
   intro i hi h;obtain rfl:i=0:=⋯;exact⟨0,h,λj hj=>absurd hj (dB _)⟩
  |succ n ih=>
   intro i hi h;cases Classical.em (∃j,j<i/\tb m j=true) with
   |inl z=>
    obtain⟨j,hj,hb⟩:=z;exact ih j ⋯ hb
   |inr z=>
    exact⟨i,h,λj hj=>by
     cases e:tb m j with
     |false=>rfl
     |true=>exact absurd ⟨j,hj,e⟩ z⟩
 exact key i i (aQ _) hi
theorem aGM{m:Int}(h:0<m){k:Nat}(hk:tb m k=true)(hj:∀j,j<k->tb m j=false):Builtin.bitAnd m (-m)=2^k:=by
 have hm1:0<=m-1:=⋯;have e:Builtin.bitAnd m (-m)=m-Builtin.bitAnd m (m-1):=by
  rw[bitAnd_pn ⋯ ⋯,bitAnd_pp ⋯ hm1];have:Builtin.bitNot (-m)=m-1:=by unfold Builtin.bitNot;omega
  rw[this]
 obtain⟨n,rfl⟩:=cH (bN h);have hkn:n.testBit k=true:=hk;have hjn:∀j,j<k->n.testBit j=false:=hj;have em:n%2^k=0:=Nat.eq_of_testBit_eq λi=>by
  rw[Nat.testBit_mod_two_pow,Nat.zero_testBit];by_cases c:i<k
  ·rw[eZ c,hjn i c];rfl
  ·rw[fC c];rfl
 have hd:n=2^k*(n / 2^k):=by
  have:=Nat.div_add_mod n (2^k);omega
 have ho:(n / 2^k).testBit 0=true:=by rw[Nat.testBit_div_two_pow,Nat.zero_add];exact hkn
 have ho:n / 2^k%2=1:=by
  rw[Nat.testBit_zero] at ho;exact eY ho
 obtain⟨q,hq⟩:∃q,n / 2^k=2*q+1:=⟨n / 2^k / 2,⋯⟩;have hp:=Nat.two_pow_pos k;have e1:n=2^(k+1)*q+2^k:=by rw[hd,hq,Nat.mul_add,Nat.mul_one,←Nat.mul_assoc,Nat.pow_succ]
 have e2:n-1=2^(k+1)*q+(2^k-1):=⋯;have hl:2^k-1<2^(k+1):=by rw[Nat.pow_succ];omega
 have hl2:2^k<2^(k+1):=by rw[Nat.pow_succ];omega
 have tb1:∀i,tb ((n:Int)-1) i=(if i<k+1 then (2^k-1).testBit i else q.testBit (i-(k+1))):=λi=>by
  unfold tb;have:((n:Int)-1).toNat=n-1:=⋯;rw[this,e2,Nat.testBit_two_pow_mul_add _ hl]
 have tbn:∀i,tb (n:Int) i=(if i<k+1 then (2^k).testBit i else q.testBit (i-(k+1))):=λi=>by
  unfold tb;rw[bP,e1,Nat.testBit_two_pow_mul_add _ hl2]
 have hz:∀i,(tb (2^k) i&&tb (Builtin.bitAnd (n:Int) ((n:Int)-1)) i)=false:=λi=>by
  rw[arG,adQ ⋯ hm1,tb1];by_cases c:k=i
  ·subst c;rw[if_pos ⋯,Nat.testBit_two_pow_sub_one];simp
  ·rw[fC c];rfl
 have hs:=aD9 (c:=2^k) (d:=Builtin.bitAnd (n:Int) ((n:Int)-1)) (m:=(n:Int)) (bN (aaN k)) (aiU ⋯ hm1) ⋯ hz (λi=>by
  rw[arG,adQ ⋯ hm1,tb1,tbn];by_cases c:i<k+1
  ·rw[if_pos c,if_pos c,Nat.testBit_two_pow_sub_one,Nat.testBit_two_pow];by_cases d:k=i
   ·subst d;simp
   ·rw[fC d];simp
  ·rw[if_neg c,if_neg c,fC ⋯];cases q.testBit (i-(k+1))<;>rfl)
 omega
theorem aAQ(k:Nat):Builtin.Int.intBits (2^k)=k+1:=by
 unfold Builtin.Int.intBits;have h0:((2:Int)^k==0)=false:=beq_eq_false_iff_ne.mpr (Int.ne_of_gt (aaN k));rw[h0];have:((2:Int)^k).natAbs=2^k:=by rw[←aa8,Int.natAbs_natCast]
 rw[this,Nat.log2_two_pow];rfl
noncomputable abbrev TrX:=Int×Int×List Nat
def TpX(H:Hp)(v:V)(z:TrX):Prop:=∃t:Addr,v=.ref t/\H t=some (.tup [.int z.1,.int z.2.1,.str (Tx z.2.2)])
noncomputable def aiN(sts:List TrX)(a b:Int)(tm:List Nat):List TrX:=match sts.getLast? with
 |some s=>if s.2.2=tm then sts.dropLast++[(s.1,b,tm)] else sts++[(a,b,tm)]
 |none=>[(a,b,tm)]
theorem amS{H H':Hp}(h:∀b xs,H b=some (.tup xs)->H' b=some (.tup xs)){v:V}{s:TrX}(z:TpX H v s):TpX H' v s:=by
 obtain⟨t,e,ht⟩:=z;exact⟨t,e,h _ _ ht⟩
theorem ao1(sts:List TrX)(s:TrX)(a b:Int)(tm:List Nat):aiN (sts++[s]) a b tm=if s.2.2=tm then sts++[(s.1,b,tm)] else sts++[s]++[(a,b,tm)]:=by
 unfold aiN;simp
theorem aA5{α β:Type}{F:α->β->Prop}:∀{l:List α} {v:α} {r:List β},Paired F (l++[v]) r->∃r0 s,r=r0++[s]/\Paired F l r0/\F v s
 |[],v,_,.cons h .nil=>⟨[],(),.nil,h⟩
 |x::l,v,_,.cons h t=>by
  obtain⟨r0,s,rfl,h1,h2⟩:=aA5 t;exact⟨_::r0,s,rfl,.cons h h1,h2⟩
theorem aEA{α:Type}{l:List α}(h:l≠[]):∃l0 v,l=l0++[v]:=⟨l.dropLast,l.getLast h,(List.dropLast_concat_getLast h).symm⟩
theorem ax0{l:List V}{v:V}:atI (l++[v]) (-1)=some v:=aDR l v
theorem aF1{l:List V}{v:V}:ixN (l++[v]).length (-1)=some l.length:=by
 unfold ixN;simp;omega
theorem aAJ{l:List V}{v u:V}:(l++[v]).set l.length u=l++[u]:=by simp
noncomputable def dIn(m3:Int)(kd kw:Ko)(k:Int):Int:=if tb m3 (mnA k).toNat=true then aaO kd kw (lnA k) (k%7) else 0
noncomputable def aaP(tm m3:Int)(kd kw:Ko)(k:Int)(j:Nat):Int:=if tb (dIn m3 kd kw k) (j+1)=true then tm else 0
noncomputable def acX(f:Int->Nat->Int)(k:Int):List Int:=(List.range (lnA k).toNat).map (f k)
theorem aG4{c:Cs}{H:Hp}{v:V}{ko:Ko}(h:DV c H v ko):∀ks,ko=some ks->∀k∈ks,k.ok:=λks e=>by
 subst e;obtain⟨_,_,_,_,_,z⟩:=h;exact z
theorem aJF{c:Cs}{H:Hp}{dv wv:V}{m3 k:Int}{kd kw:Ko}(hd:DV c H dv kd)(hw:DV c H wv kw)(h0:0<=k)(h1:k<=90):0<=dIn m3 kd kw k:=by
 have ml:=(adJ h0 h1).2;unfold dIn;split
 ·unfold aaO;split
  ·have:(0:Int)<2^(lnA k).toNat:=aaN _;omega
  ·exact afV (b:=false) ml (aG4 hw) (afV (b:=false) ml (aG4 hd) (aS 0))
 ·exact aS 0
theorem awR{h m:Int}(h0:0<=h)(h1:h<2^24)(hm:0<=m){r:Nat}(a:tb h (r / 60)=true)(b:tb m (r%60)=true):tb (tmF h m) r=true:=by
 unfold tmF;rw[ab5 (λz hz=>by
  obtain⟨y,_,rfl⟩:=bD.mp hz;exact Int.mul_nonneg hm (bN (aaN _))),cN]
 have hlt:r / 60<24:=by
  rcases cL (r / 60) 24 with c | c
  ·exact c
  ·rw[adI h1 c] at a;cases a
 refine⟨_,bD.mpr ⟨((r / 60:Nat):Int),?_,rfl⟩,?_⟩
 ·rw[alO h0 h1,flt_mem];exact⟨r / 60,hlt,a,⋯⟩
 ·rw[show (60*((r / 60:Nat):Int)).toNat=60*(r / 60) by omega,alW hm,eZ (show 60*(r / 60)<=r by omega),show r-60*(r / 60)=r%60 by omega,b];rfl
theorem aK7{h m:Int}(h0:0<=h)(h1:h<2^24)(hm:0<=m)(hm2:m<2^60):akK (tmF h m):=by
 unfold tmF;rw[alO h0 h1];obtain⟨e,a,b⟩:=ax8 (h:=h) hm hm2 24;rw[e];exact⟨a,b⟩
theorem av1(g:Int->Nat->Int)(k:Int):(acX g k).length=(lnA k).toNat:=by unfold acX;rw[aR,cJ]
theorem aG1{g:Int->Nat->Int}{k:Int}{j:Nat}(h:j<(lnA k).toNat):(acX g k).getD j 0=g k j:=by
 unfold acX;rw[eG,bC,List.getElem?_range h];rfl
noncomputable def wK(g:Int->Nat->Int)(k:Int):Int:=mnN (λj=>(acX g k).getD j 0) (acX g k).length
noncomputable def SM(M:Int):Int:=1440*aaV M
noncomputable def WM(g:Int->Nat->Int)(M:Int):Int:=wK g (aa5 M)
def GOk(g:Int->Nat->Int):Prop:=∀k j,akK (g k j)
theorem aO7{g:Int->Nat->Int}(hg:GOk g){k:Int}:∀t∈acX g k,akK t:=λt ht=>by
 obtain⟨j,_,rfl⟩:=bD.mp ht;exact hg k j
theorem aDG{g:Int->Nat->Int}(hg:GOk g){k:Int}(j:Nat)(hj:j<(acX g k).length):akK ((acX g k).getD j 0):=by
 rw[aG1 (by rw[av1] at hj;exact hj)];exact hg k j
theorem afU(M:Int):0<=aa5 M/\aa5 M<=90:=ahH ⋯ ⋯
theorem ayB(M:Int):lnA (aa5 M)=af8 M:=(acH (y:=M / 12) (m:=M%12+1) ⋯ ⋯).2
theorem ab9(M:Int):28<=af8 M/\af8 M<=31:=apI ⋯ ⋯
theorem axX{g:Int->Nat->Int}(hg:GOk g)(k:Int)(i:Nat):tb (wK g k) i=(decide (i / 1440<(lnA k).toNat)&&tb (g k (i / 1440)) (i%1440)):=by
 unfold wK;rw[aCJ i (λj hj=>aDG hg j hj),av1];by_cases c:i / 1440<(lnA k).toNat
 ·show (_&&tb ((acX g k).getD (i / 1440) 0) _)=_;rw[aG1 c]
 ·rw[fC c];rfl
theorem aiW{g:Int->Nat->Int}(hg:GOk g):Cal SM (WM g) where
 up M:=by
  unfold SM;have:=abH M;have:=ab9 M;omega
 nn M:=avV λj hj=>aDG hg j hj
 bit M i h:=by
  unfold WM at h;rw[axX hg,bH,fB,ayB] at h;unfold SM;have:=abH M;omega
abbrev EvG(g:Int->Nat->Int)(t:Int):Prop:=Ev SM (WM g) t
theorem asZ{t y m k:Int}(ok:OkD y m k)(e:abY y m k=t / 1440):SM (12*y+m-1)<=t/\t<SM (12*y+m-1+1)/\(t-SM (12*y+m-1)).toNat=1440*(k-1).toNat+(t%1440).toNat/\aa5 (12*y+m-1)=kindOf y m/\(k-1).toNat<(aaF y m).toNat/\(k-1).toNat+1=k.toNat:=by
 have hm:=ok.1;have hk:=ok.2;have e1:(12*y+m-1) / 12=y:=⋯;have e2:(12*y+m-1)%12+1=m:=⋯;have ek:aa5 (12*y+m-1)=kindOf y m:=by unfold aa5;rw[e1,e2]
 have ed:aaV (12*y+m-1)=db y+ahead y m:=by unfold aaV;rw[e1,e2]
 have el:af8 (12*y+m-1)=aaF y m:=by unfold af8;rw[e1,e2]
 have up:=abH (12*y+m-1);have e':db y+ahead y m+k-1=t / 1440:=e;rw[ed,el] at up;clear e e1 e2 hm ok;unfold SM;rw[ed,up];clear ed el up;generalize db y+ahead y m=A at *;generalize aaF y m=L at *;refine⟨⋯,⋯,⋯,ek,⋯,⋯⟩
theorem aBQ(t:Int)(n:Nat):(1440*n+(t%1440).toNat) / 1440=n/\(1440*n+(t%1440).toNat)%1440=(t%1440).toNat/\(t%1440).toNat / 60=(t%1440 / 60).toNat/\(t%1440).toNat%60=(t%1440%60).toNat:=⟨⋯,⋯,⋯,⋯⟩
theorem aG6{m0 m1 m3 t y m k:Int}{kd kw:Ko}(hn:0<=m0/\0<=m1/\0<=m3)(hb:m1<2^24/\m0<2^60)(hg:GOk (aaP (tmF m1 m0) m3 kd kw))(ok:OkD y m k)(e:abY y m k=t / 1440)(h:shK m0 m1 m3 kd kw (t / 1440) (t%1440) y m k=.non):EvG (aaP (tmF m1 m0) m3 kd kw) t:=by
 unfold shK at h;split at h
 ·cases h
 split at h
 ·cases h
 split at h
 ·cases h
 split at h
 ·cases h
 rename_i c1 c2 c3 c4;have f7:=aiC ok e;have mk:=acH (y:=y) ok.1.1 ok.1.2;obtain⟨a1,a2,ei,ek,a5,a6⟩:=asZ ok e;obtain⟨u1,u2,u3,u4⟩:=aBQ t (k-1).toNat;refine⟨12*y+m-1,a1,a2,?_⟩;unfold WM;rw[axX hg,ei,u1,u2,ek,mk.2,eZ a5];have eg:aaP (tmF m1 m0) m3 kd kw (kindOf y m) (k-1).toNat=tmF m1 m0:=by
  unfold aaP dIn;rw[mk.1,mk.2,if_pos (abT c1),f7,a6,if_pos (abT c2)]
 rw[eg,awR hn.2.1 hb.1 hn.1 (by rw[u3];exact abT c3) (by rw[u4];exact abT c4)];rfl
theorem av2{h m m3:Int}{kd kw:Ko}(h0:0<=h)(h1:h<2^24)(hm:0<=m)(hm2:m<2^60):GOk (aaP (tmF h m) m3 kd kw):=λk j=>by
 unfold aaP;split
 ·exact aK7 h0 h1 hm hm2
 ·exact⟨aS 0,aaN _⟩
theorem avE{g:Int->Nat->Int}{M mo:Int}(hc:Cal SM (WM g))(hM:SM M<=mo)(hm:mo<SM (M+1))(h:∀t,mo<=t->t<SM (M+492)->¬EvG g t):∀t,¬EvG g t:=by
 refine at4 (A:=λN=>M+1<=N/\N<=M+491) (λN hN=>?_) (λN=>?_)
 ·rcases b9 0 (WM g N) with c | c
  ·obtain⟨l,hl,_⟩:=aB7 c;exfalso;have hb:=hc.bit N l hl;have h1:=hc.mono (show M+1<=N by omega);have h2:=hc.mono (show N+1<=M+492 by omega);exact h (SM N+l) ⋯ ⋯ ⟨N,⋯,⋯,by rw[show (SM N+(l:Int)-SM N).toNat=l by omega];exact hl⟩
  ·have:=hc.nn N;omega
 ·obtain⟨N',a,b,c⟩:=awE (afU N).1 (afU N).2 M;exact⟨N',⟨a,b⟩,by unfold WM;rw[c]⟩
theorem aB0(M:Int):∀n:Nat,SM (M+n)<=SM M+44640*n
 |0=>by simp
 |n+1=>by
  have:=aB0 M n;have:=abH (M+n);have:=ab9 (M+n);rw[show M+((n+1:Nat):Int)=M+n+1 by omega];unfold SM at *;omega
noncomputable def lmX(sts:List TrX):Int:=match sts.getLast? with
 |some s=>if s.2.2=[109,105,110,117,116,101] then 1 else 0
 |none=>0
theorem aCL(sts:List TrX):0<=lmX sts/\lmX sts<=1:=by
 unfold lmX;split
 ·split<;>decide
 ·decide
theorem aFP(sts:List TrX)(a b:Int)(tm:List Nat):lmX (aiN sts a b tm)=if tm=[109,105,110,117,116,101] then 1 else 0:=by
 unfold aiN;split
 ·split
  ·unfold lmX;rw[List.getLast?_concat]
  ·unfold lmX;rw[List.getLast?_concat]
 ·rfl
theorem at0(sts:List TrX)(a b:Int)(tm:List Nat):(aiN sts a b tm).length<=sts.length+1/\(tm=[109,105,110,117,116,101]->lmX sts=1->(aiN sts a b tm).length=sts.length):=by
 rcases List.eq_nil_or_concat sts with rfl | ⟨l,s,rfl⟩
 ·exact⟨aQ _,λ_ h=>by cases h⟩
 ·rw[List.concat_eq_append,ao1];split
  ·refine⟨by simp,λ_ _=>by simp⟩
  ·rename_i c;refine⟨by simp,λe h=>?_⟩;exfalso;unfold lmX at h;rw[List.getLast?_concat] at h;by_cases z:s.2.2=[109,105,110,117,116,101]
   ·exact c (z.trans e.symm)
   ·have h:(if s.2.2=[109,105,110,117,116,101] then (1:Int) else 0)=1:=h;rw[if_neg z] at h;cases h
theorem aDP{sts:List TrX}{a b mo la be:Int}{tm:List Nat}(h:(sts.length:Int)<=2*(mo / 60-be / 60)+lmX sts)(h1:mo<=la)(h2:tm≠[109,105,110,117,116,101]->(la+1)%60=0):((aiN sts a b tm).length:Int)<=2*((la+1) / 60-be / 60)+lmX (aiN sts a b tm):=by
 have l1:=aCL sts;obtain⟨n1,n2⟩:=at0 sts a b tm;rw[aFP];by_cases c:tm=[109,105,110,117,116,101]
 ·rw[if_pos c];rcases (show lmX sts=0∨lmX sts=1 by omega) with z | z
  ·omega
  ·have:=n2 c z;omega
 ·rw[if_neg c];have:=h2 c;omega
theorem acE{α β:Type}{F:α->β->Prop}:∀{l:List α} {r:List β},Paired F l r->l.length=r.length
 |_,_,.nil=>rfl
 |_,_,.cons _ t=>congrArg (·+1) (acE t)
theorem aFS{m0 m1 m3 d r y m k:Int}{kd kw:Ko}(h:shK m0 m1 m3 kd kw d r y m k≠ .non):∃tw,shK m0 m1 m3 kd kw d r y m k=.str (Tx tw)/\(tw≠[109,105,110,117,116,101]->tw≠[104,111,117,114]->tb m3 m.toNat=true->tb (aaO kd kw (aaF y m) ((d-k+1+6)%7)) k.toNat=false):=by
 by_cases c1:tb m3 m.toNat=false
 ·exact⟨_,sh1 c1,λ_ _ z=>by rw[c1] at z;cases z⟩
 have c1:=abT c1;by_cases c2:tb (aaO kd kw (aaF y m) ((d-k+1+6)%7)) k.toNat=false
 ·exact⟨_,sh2 c1 c2,λ_ _ _=>c2⟩
 have c2:=abT c2;by_cases c3:tb m1 (r / 60).toNat=false
 ·exact⟨_,sh3 c1 c2 c3,λ_ z=>absurd rfl z⟩
 have c3:=abT c3;by_cases c4:tb m0 (r%60).toNat=false
 ·exact⟨_,sh4 c1 c2 c3 c4,λz=>absurd rfl z⟩
 exact absurd (sh5 c1 c2 c3 (abT c4)) h
def SameN(H H':Hp):Prop:=∀b o,(∀ps,o≠ .tbl ps)->H b=some o->H' b=some o
theorem aeW{H H':Hp}(s:Same H H'):SameN H H':=λb o _ h=>s b o h
theorem SameN.trans{H H1 H2:Hp}(a:SameN H H1)(b:SameN H1 H2):SameN H H2:=λc o n h=>b c o n (a c o n h)
theorem atP{c:Cs}{H H':Hp}(s:SameN H H'){v:V}:∀{ko:Ko},DV c H v ko->DV c H' v ko
 |none,h=>h
 |some _,⟨p,qs,e,h1,h2,h3⟩=>⟨p,qs,e,s _ _ (λ_ z=>by cases z) h1,Paired.imp' (λx k z=>by cases k<;>(obtain⟨dx,z⟩:=z;exact⟨dx,s _ _ (λ_ z=>by cases z) z⟩)) h2,h3⟩
def RowR(c:Cs)(CR:Addr)(H:Hp)(p:Addr)(m0 m1 m3:Int)(kd kw:Ko):Prop:=∃(dx:Addr) (dv wv:V),H p=some (.ins CR dx (acB m0 m1 dv m3 wv (tmF m1 m0)))/\(0<=m0/\0<=m1/\0<=m3)/\(m1<2^24/\m0<2^60)/\DV c H dv kd/\DV c H wv kw
theorem RowR.keepN{c:Cs}{CR:Addr}{H H':Hp}{p:Addr}{m0 m1 m3:Int}{kd kw:Ko}(s:SameN H H')(h:RowR c CR H p m0 m1 m3 kd kw):RowR c CR H' p m0 m1 m3 kd kw:=by
 obtain⟨dx,dv,wv,hp,hn,hb,hd,hw⟩:=h;exact⟨dx,dv,wv,s _ _ (λ_ z=>by cases z) hp,hn,hb,atP s hd,atP s hw⟩
theorem RowR.ok{c:Cs}{CR:Addr}{H:Hp}{p:Addr}{m0 m1 m3:Int}{kd kw:Ko}(h:RowR c CR H p m0 m1 m3 kd kw):GOk (aaP (tmF m1 m0) m3 kd kw):=by
 obtain⟨dx,dv,wv,hp,hn,hb,hd,hw⟩:=h;exact av2 hn.2.1 hb.1 hn.1 hb.2
def awD(P:Program)(w:World)(K:FG)(mg:Str->Option Value)(base:Heap)(n:Nat)(H:Hp)(f:Addr)(g:Int->Nat->Int):Prop:=
 FnHO H f/\∀(H1:Hp) (kd:Int) (Q:VK),Same H H1->0<=kd->kd<=90->(∀D H2,Same H1 H2->H2 D=some (.lst ((acX g kd).map V.int))->Q (.ref D) H2)->Calls P w K mg base n f [.int kd] H1 Q
theorem azU{H H1:Hp}{f:Addr}(s:Same H H1)(h:FnHO H f):FnHO H1 f:=by
 obtain⟨oc,od,fd,sl,e⟩:=h;exact⟨oc,od,fd,sl,s _ _ e⟩
def aB1(g:Int->Nat->Int)(kvs:List (Key×V)):Prop:=∀(k:Int) (v:V),adB kvs (.inl k)=some v->v=.int (wK g k)
theorem aI5{g:Int->Nat->Int}{kvs:List (Key×V)}(h:aB1 g kvs)(k:Int):aB1 g (ag4 kvs (.inl k) (.int (wK g k))):=λj v e=>by
 rw[asN] at e;by_cases c:(Sum.inl j:Key)=.inl k
 ·rw[if_pos c] at e;cases c;exact (aZ e).symm
 ·rw[if_neg c] at e;exact h j v e
theorem aKX(x:Int):(if 0>x then 0 else x)=max x 0:=by split<;>omega
theorem aUQ(g:Int->Nat->Int){k:Int}(h0:0<=k)(h1:k<=90):(acX g k).length<=31:=by
 rw[av1];have:=(adJ h0 h1).2.1;omega
noncomputable def lamQ(x:Str):Str:=x++".<locals>."++"<lambda>"
def as8(H:Hp)(Pt:Addr)(lp:Pos)(q:Str):Prop:=H Pt=some (.tbl #[])∨∃c0,H Pt=some (.tbl #[rawInt lp.line,rawInt lp.col,.ref c0])/\H c0=some (aqA c0 q)
theorem az0(lp:Pos)(c0:Addr):codeAmong lp [rawInt lp.line,rawInt lp.col,.ref c0]=some (.ref c0):=by simp[codeAmong,rawInt]
theorem as2{H H':Hp}{Pt:Addr}{lp:Pos}{q:Str}(s:Same H H')(h:as8 H Pt lp q):as8 H' Pt lp q:=by
 rcases h with h | ⟨c0,h,hc⟩
 ·exact .inl (s _ _ h)
 ·exact .inr ⟨c0,s _ _ h,s _ _ hc⟩
theorem al0{HL H':Hp}{a:Addr}{x:HO}(ha:HL a=none)(s':Same (upd HL a x) H'):Same HL (era H' a):=λb o hb=>by
 have nb:b≠a:=λz=>by rw[z,ha] at hb;cases hb
 rw[aaZ nb];exact s' _ _ (by rw[aaD nb];exact hb)
def aD1(H:Hp)(l:Addr):Prop:=∀o,(∀ps,o≠ .tbl ps)->H l≠some o
theorem ar7{H H':Hp}{l:Addr}(s:SameN H H')(h:H' l=none):aD1 H l:=λo n e=>by
 rw[s _ _ n e] at h;cases h
def aJJ(H HL:Hp)(f:Addr)(qual:Str)(params:Arguments)(body:Expr)(scope:Scope)(a:Addr)(pm:Value)(tN:Addr)(pN:Pos)(qN:Str):Prop:=
 H f=none/\SameN H HL/\(∃c' ctv,HL f=some (acR f (azS qual params body scope "row" a pm c' ctv))/\HL c'=some (aqA c' qual))/\as8 HL tN pN qN
theorem aoJ{H H':Hp}{bm:Addr}(s:SameN H H')(h:ayP H bm):ayP H' bm:=by
 obtain⟨ob,u,e,r⟩:=h;exact⟨ob,u,s _ _ (λ_ z=>by cases z) e,r⟩
theorem azV{H:Hp}{qual:Str}{params:Arguments}{body:Expr}{scope:Scope}{a tN bm:Addr}{pm:Value}{pN:Pos}{Q:VK}(h1:as8 H tN pN qual)(hbm:ayP H bm)(h:∀f HL,aJJ H HL f qual params body scope a pm tN pN qual->Q (.ref f) HL){σ:L2.St}:aT1 tN bm pN qual params body scope "row" a pm σ H Q:=by
 have oth:∀{b:Addr} {o:HO},H b=some o->(∀ps,o≠ .tbl ps)->b≠tN:=λhb n z=>by
  rcases h1 with e | ⟨c0,e,_⟩<;>(rw[z,e] at hb;exact n _ (aZ hb).symm)
 rcases h1 with e | ⟨c0,e,hc⟩
 ·refine⟨hbm,#[],e,True.intro,.inl ⟨rfl,λf c' ctv hf hc' hcf=>h f _ ⟨hf,λb o n hb=>?_,⟨c',ctv,aaA,?_⟩,?_⟩⟩⟩
  ·rw[aaD (λz=>by rw[z,hf] at hb;cases hb),aaD (λz=>by rw[z,hc'] at hb;cases hb),aaD (oth hb n)];exact hb
  ·rw[aaD hcf,aaA]
  ·refine .inr ⟨c',?_,by rw[aaD hcf,aaA]⟩;rw[aaD (λz=>by rw[z,hf] at e;cases e),aaD (λz=>by rw[z,hc'] at e;cases e),aaA];rfl
 ·refine⟨hbm,_,e,(by simp[TriplesOk,rawInt]),.inr ⟨c0,az0 pN c0,hc,λf ctv hf=>h f _ ⟨hf,aeW (aaB hf _),⟨c0,ctv,aaA,aaB hf _ _ _ hc⟩,as2 (aaB hf _) (.inr ⟨c0,e,hc⟩)⟩⟩⟩
def awA(H:Hp)(tN bm:Addr):Prop:=as8 H tN ⟨165,21,165,51⟩ (lamQ "next_from")/\ayP H bm
theorem ajI{H H':Hp}{tN bm:Addr}(s:Same H H')(h:awA H tN bm):awA H' tN bm:=⟨as2 s h.1,aoJ (aeW s) h.2⟩
theorem aAB:∀m∈apF,∀l∈ls4,∀f∈fs7,wkD m l f<2^(l.toNat+1):=by decide +kernel
theorem apB:∀l∈ls4,∀f∈fs7,∀d∈acF,d<=l->nw d l f<=l:=by decide +kernel
theorem ad2{a n:Nat}(h:a<n):(1:Int)*2^a<2^n:=by
 have e:(2:Int)^n=2^a*2^(n-a):=by rw[←Int.pow_add,show a+(n-a)=n by omega]
 have p:=aaN a;have q:(2:Int)<=2^(n-a):=by
  obtain⟨k,hk⟩:∃k,n-a=k+1:=⟨n-a-1,⋯⟩;rw[hk,Int.pow_succ];have:=aaN k;omega
 rw[e,Int.one_mul];have:(2:Int)^a*1<2^a*2^(n-a):=Int.mul_lt_mul_of_pos_left ⋯ p;omega
theorem aK0{k:Mk}{l f:Int}(hk:k.ok)(h:Lf l f):k.due l f<2^(l.toNat+1):=by
 have hl:=h.1;have p:=aaN (l.toNat+1);cases k with
 |num m=>
  show ahF m l<_;rw[(av6 hk h.1).1];have e:=axV (n:=l.toNat+1) 0 (av6 hk h.1).2.2.1 (λd hd=>by have:=(aq5 m l.toNat).2.2 d hd;omega) ⋯;have e1:(2:Int)^0=1:=rfl;omega
 |lst b=>
  show (if l<=b then (0:Int) else 1*2^(l-b).toNat)<_;have hb:=hk.1;split
  ·exact p
  ·exact ad2 ⋯
 |nea d=>
  show (if l<d then (0:Int) else 1*2^(nw d l f).toNat)<_;split
  ·exact p
  ·have:=apB l (adG hl.1 hl.2) f (adH h.2.1 h.2.2) d (alJ hk.1 hk.2) ⋯;exact ad2 ⋯
 |wrk=>
  have:=apB l (adG hl.1 hl.2) f (adH h.2.1 h.2.2) l (alJ ⋯ hl.2) (aS _);exact ad2 ⋯
 |wkd m=>exact aAB m (aBE hk.1 hk.2) l (adG hl.1 hl.2) f (adH h.2.1 h.2.2)
 |nth w m=>
  show (if l<acN w m f then (0:Int) else 1*2^(acN w m f).toNat)<_;split
  ·exact p
  ·exact ad2 ⋯
 |one w=>
  have:ad9 w l f<=l:=by
   unfold ad9;have:=cG ((f+l-1)%7-w) (show (7:Int)≠0 by decide);omega
  exact ad2 ⋯
 |nil=>exact p
theorem aAK{ko:Ko}{a l f:Int}(h:Lf l f)(o:∀ks,ko=some ks->∀k∈ks,k.ok)(ha:0<=a)(ha2:a<2^(l.toNat+1)):orO ko a l f<2^(l.toNat+1):=by
 cases ko with
 |none=>exact ha2
 |some ks=>exact aQ6 ha (awF h (o ks rfl)) ha2 (avD λm hm=>by
   obtain⟨k,hk,rfl⟩:=bD.mp hm;exact⟨amA (o ks rfl k hk) h,aK0 (o ks rfl k hk) h⟩)
theorem as6{kd kw:Ko}{l f:Int}(h:Lf l f)(od:∀ks,kd=some ks->∀k∈ks,k.ok)(ow:∀ks,kw=some ks->∀k∈ks,k.ok):aaO kd kw l f<2^(l.toNat+1):=by
 have p:=aaN (l.toNat+1);unfold aaO;split
 ·rw[Int.pow_succ];omega
 ·exact aAK h ow (afV (b:=false) h od (aS 0)) (aAK h od (aS 0) p)
def ae5(m0 m1 m3:Int)(kd kw:Ko)(t:Int)(v:V):Prop:=∀y m k:Int,OkD y m k->abY y m k=t / 1440->shK m0 m1 m3 kd kw (t / 1440) (t%1440) y m k=v
def aC8(m3:Int)(kd kw:Ko)(d:Int)(tw:List Nat):Prop:=∀y m k:Int,OkD y m k->abY y m k=d->(tw=[109,111,110,116,104]/\tb m3 m.toNat=false)∨(tw=[100,97,121]/\tb m3 m.toNat=true/\tb (aaO kd kw (aaF y m) ((d-k+1+6)%7)) k.toNat=false)
theorem aJS{m0 m1 m3 t:Int}{kd kw:Ko}{tw:List Nat}(h:aC8 m3 kd kw (t / 1440) tw):ae5 m0 m1 m3 kd kw t (.str (Tx tw)):=λy m k ok e=>by
 rcases h y m k ok e with ⟨rfl,z⟩ | ⟨rfl,z,z2⟩
 ·exact sh1 z
 ·exact sh2 z z2
theorem aa1{a b:List Nat}(h:V.str (Tx a)=V.str (Tx b)):a=b:=Tx_inj.mp (by injection h)
theorem aIO{m0 m1 m3 t:Int}{kd kw:Ko}{tw:List Nat}(h:ae5 m0 m1 m3 kd kw t (.str (Tx tw)))(n1:tw≠[109,105,110,117,116,101])(n2:tw≠[104,111,117,114]):aC8 m3 kd kw (t / 1440) tw:=λy m k ok e=>by
 have z:=h y m k ok e;by_cases c1:tb m3 m.toNat=false
 ·rw[sh1 c1] at z;exact .inl ⟨(aa1 z).symm,c1⟩
 have c1:=abT c1;by_cases c2:tb (aaO kd kw (aaF y m) ((t / 1440-k+1+6)%7)) k.toNat=false
 ·rw[sh2 c1 c2] at z;exact .inr ⟨(aa1 z).symm,c1,c2⟩
 have c2:=abT c2;by_cases c3:tb m1 (t%1440 / 60).toNat=false
 ·rw[sh3 c1 c2 c3] at z;exact absurd (aa1 z).symm n2
 have c3:=abT c3;by_cases c4:tb m0 (t%1440%60).toNat=false
 ·rw[sh4 c1 c2 c3 c4] at z;exact absurd (aa1 z).symm n1
 rw[sh5 c1 c2 c3 (abT c4)] at z;cases z
theorem aFG{m0 m1 m3 t u:Int}{kd kw:Ko}(h:ae5 m0 m1 m3 kd kw t (.str (Tx [104,111,117,114])))(e1:u / 1440=t / 1440)(e2:u%1440 / 60=t%1440 / 60):ae5 m0 m1 m3 kd kw u (.str (Tx [104,111,117,114])):=λy m k ok e=>by
 rw[e1] at e ⊢;have z:=h y m k ok e;by_cases c1:tb m3 m.toNat=false
 ·rw[sh1 c1] at z;exact absurd (aa1 z) (by decide)
 have c1:=abT c1;by_cases c2:tb (aaO kd kw (aaF y m) ((t / 1440-k+1+6)%7)) k.toNat=false
 ·rw[sh2 c1 c2] at z;exact absurd (aa1 z) (by decide)
 have c2:=abT c2;by_cases c3:tb m1 (t%1440 / 60).toNat=false
 ·exact sh3 c1 c2 (by rw[e2];exact c3)
 have c3:=abT c3;by_cases c4:tb m0 (t%1440%60).toNat=false
 ·rw[sh4 c1 c2 c3 c4] at z;exact absurd (aa1 z) (by decide)
 rw[sh5 c1 c2 c3 (abT c4)] at z;cases z
theorem aFK{h m:Int}(h0:0<=h)(h1:h<2^24)(hm:0<=m)(hm2:m<2^60){r:Nat}(e:tb (tmF h m) r=true):tb h (r / 60)=true/\tb m (r%60)=true:=by
 unfold tmF at e;rw[ab5 (λz hz=>by
  obtain⟨y,_,rfl⟩:=bD.mp hz;exact Int.mul_nonneg hm (bN (aaN _))),cN] at e
 obtain⟨_,hz,e⟩:=e;obtain⟨y,hy,rfl⟩:=bD.mp hz;rw[alO h0 h1,flt_mem] at hy;obtain⟨i,hi,hb,rfl⟩:=hy;rw[show (60*(0+(i:Int))).toNat=60*i by omega,alW hm,bH,fB] at e;have hlt:r-60*i<60:=by
  rcases cL (r-60*i) 60 with c | c
  ·exact c
  ·rw[adI hm2 c] at e;cases e.2
 rw[show r / 60=i by omega,show r%60=r-60*i by omega];exact⟨hb,e.2⟩
theorem aG9{m0 m1 m3 t:Int}{kd kw:Ko}(hn:0<=m0/\0<=m1/\0<=m3)(hb:m1<2^24/\m0<2^60)(hg:GOk (aaP (tmF m1 m0) m3 kd kw))(h:EvG (aaP (tmF m1 m0) m3 kd kw) t):ae5 m0 m1 m3 kd kw t .non:=λy m k ok e=>by
 obtain⟨M,a1,a2,a3⟩:=h;have f7:=aiC ok e;have mk:=acH (y:=y) ok.1.1 ok.1.2;obtain⟨b1,b2,ei,ek,_,a6⟩:=asZ ok e;obtain⟨u1,u2,u3,u4⟩:=aBQ t (k-1).toNat;obtain rfl:12*y+m-1=M:=(aiW hg).uniq (t:=t) b1 b2 a1 a2;unfold WM at a3;rw[axX hg,ei,u1,u2,ek,bH] at a3;have a3:=a3.2;unfold aaP at a3;split at a3
 ·rename_i c;unfold dIn at c;rw[mk.1,mk.2,f7,a6] at c;split at c
  ·rename_i c1;obtain⟨z1,z2⟩:=aFK hn.2.1 hb.1 hn.1 hb.2 a3;exact sh5 c1 c (by rw[←u3];exact z1) (by rw[←u4];exact z2)
  ·rw[aaQ] at c;cases c
 ·rw[aaQ] at a3;cases a3
theorem axA:∀n:Nat,n<100->∀c∈num n,c<128:=by decide +kernel
theorem acS{l:List Nat}(h:l.all (λc=>decide (c<128))=true):Asc l:=λc hc=>eY (bV.mp h c hc)
theorem abS{a b:List Nat}(h1:Asc a)(h2:Asc b):Asc (a++b):=λc h=>(bO.mp h).elim (h1 c) (h2 c)
theorem akL{α β:Type}{F:α->β->Prop}:∀(j:Nat) {l:List α} {r:List β},Paired F l r->Paired F (l.drop j) (r.drop j)
 |0,_,_,h=>h
 |_+1,_,_,.nil=>.nil
 |j+1,_,_,.cons _ t=>akL j t
theorem akD{α β:Type}{F:α->β->Prop}:∀(j:Nat) {l:List α} {r:List β},Paired F l r->Paired F (l.take j) (r.take j)
 |0,_,_,_=>.nil
 |_+1,_,_,.nil=>.nil
 |j+1,_,_,.cons h t=>.cons h (akD j t)
theorem asX{ds ss:List Int}(h:Digs ds ss)(j n:Nat):Digs ((ds.drop j).take n) ((ss.drop j).take n):=akD n (akL j h)
theorem adP{ds ss:List Int}:∀{i:Nat} {z:Int},Digs ds ss->ss[i]? =some z->∃d,ds[i]? =some d/\0<=d/\d<z:=by
 induction ds generalizing ss with
 |nil=>intro i z h e;cases h;cases e
 |cons d ds ih=>
  intro i z h e;cases h with
  |cons r t=>
   cases i with
   |zero=>cases e;exact⟨d,rfl,r⟩
   |succ i=>exact ih t e
theorem aeD{ds:List Int}{i:Nat}{d:Int}(e:ds[i]? =some d):atI (ds.map V.int) (i:Int)=some (.int d):=ahQ (by rw[bC,e];rfl)
theorem aCR{ds:List Int}{j n:Nat}(h:j+n<=ds.length){a b:Int}(ea:a=j)(eb:b=j+n):ai7 (ds.map V.int) (some a) (some b)=((ds.drop j).take n).map V.int:=by
 subst ea;rw[show b=((j+n:Nat):Int) by omega];unfold ai7;rw[HT.sIx_nat,HT.sIx_nat,aR,Nat.min_eq_left h,Nat.min_eq_left (show j<=ds.length by omega),←List.map_drop,←List.map_take,show j+n-j=n by omega]
theorem aAZ{ds ss:List Int}(hd:Digs ds ss){j:Nat}{s0 s1 s2 s3:Int}(e:(ss.drop j).take 4=[s0,s1,s2,s3]){a b:Int}(ea:a=j)(eb:b=j+4):∃w1 w2 w3 w4:Int,ai7 (ds.map V.int) (some a) (some b)=[.int w1,.int w2,.int w3,.int w4]/\(0<=w2/\w2<s1):=by
 have hl:=hd.len;have h4:=congrArg List.length e;rw[dE,dH] at h4;have h4:min 4 (ss.length-j)=4:=h4;obtain⟨w1,w2,w3,w4,ew,_,k,_⟩:=Digs.four (e▸asX hd j 4);exact⟨w1,w2,w3,w4,by rw[aCR (n:=4) ⋯ ea eb,ew];rfl,k⟩
theorem ar8{ds ss:List Int}(hd:Digs ds ss){j:Nat}{s0 s1 s2 s3 s4:Int}(e:(ss.drop j).take 5=[s0,s1,s2,s3,s4]){a b:Int}(ea:a=j)(eb:b=j+5):∃w1 w2 w3 w4 w5:Int,ai7 (ds.map V.int) (some a) (some b)=[.int w1,.int w2,.int w3,.int w4,.int w5]/\(0<=w3/\w3<s2):=by
 have hl:=hd.len;have h4:=congrArg List.length e;rw[dE,dH] at h4;have h4:min 5 (ss.length-j)=5:=h4;obtain⟨w1,w2,w3,w4,w5,ew,_,_,k,_⟩:=Digs.five (e▸asX hd j 5);exact⟨w1,w2,w3,w4,w5,by rw[aCR (n:=5) ⋯ ea eb,ew];rfl,k⟩
theorem ajE{z:Int}(h0:0<=z)(h1:z<=99):z.toNat<10^500/\[V.int z]=[V.int (z.toNat:Nat)]/\(num z.toNat).length<=2/\Asc (num z.toNat):=⟨bA (show z.toNat<100 by omega) (by decide +kernel),by rw[bK h0],(ajS _ ⋯).2.2.2,axA _ ⋯⟩
def OkM(b:Bool)(k:Mk):Prop:=k.sp=true/\k.wk=b/\k.ok
theorem aGG(w:Int):(1+w%30).toNat<10^500/\[V.int (1+w%30)]=[V.int ((1+w%30).toNat:Nat)]/\2+(num (1+w%30).toNat).length<=sizeLine/\(Cl ([76,45]++num (1+w%30).toNat)/\SpT false ([76,45]++num (1+w%30).toNat) (.lst (1+w%30)))/\OkM false (.lst (1+w%30))/\Asc ([76,45]++num (1+w%30).toNat):=by
 obtain⟨a,b,c,d⟩:=ajE (z:=1+w%30) ⋯ ⋯;have z:=aJ7 (1+w%30).toNat ⋯ ⋯;rw[bK ⋯] at z;exact⟨a,b,by rw[eU];omega,⟨z.2,z.1⟩,⟨rfl,rfl,⋯,⋯⟩,abS (acS rfl) d⟩
theorem aEL{w:Int}(h0:0<=w)(h1:w<31):(1+w).toNat<10^500/\[V.int (1+w)]=[V.int ((1+w).toNat:Nat)]/\(num (1+w).toNat).length+1<=sizeLine/\(Cl (num (1+w).toNat++[87])/\SpT false (num (1+w).toNat++[87]) (.nea (1+w)))/\OkM false (.nea (1+w))/\Asc (num (1+w).toNat++[87]):=by
 obtain⟨a,b,c,d⟩:=ajE (z:=1+w) ⋯ ⋯;have z:=aJX (1+w).toNat ⋯ ⋯;rw[bK ⋯] at z;exact⟨a,b,by rw[eU];omega,⟨z.2,z.1⟩,⟨rfl,rfl,⋯,⋯⟩,abS d (acS rfl)⟩
theorem aJT{w v:Int}(h0:0<=w)(h1:w<8):(w.toNat<10^500/\[V.int w]=[V.int (w.toNat:Nat)]/\(num w.toNat).length+1<=sizeLine)/\((1+v%5).toNat<10^500/\[V.int (1+v%5)]=[V.int ((1+v%5).toNat:Nat)]/\(num w.toNat++[35]).length+(num (1+v%5).toNat).length<=sizeLine)/\(Cl (num w.toNat++[35]++num (1+v%5).toNat)/\SpT true (num w.toNat++[35]++num (1+v%5).toNat) (.nth (w%7) (1+v%5)))/\OkM true (.nth (w%7) (1+v%5))/\Asc (num w.toNat++[35]++num (1+v%5).toNat):=by
 obtain⟨a,b,c,d⟩:=ajE (z:=w) ⋯ ⋯;obtain⟨a',b',c',d'⟩:=ajE (z:=1+v%5) ⋯ ⋯;have z:=aHH w.toNat ⋯ (1+v%5).toNat ⋯ ⋯;rw[bK ⋯,bK ⋯] at z;exact⟨⟨a,b,by rw[eU];omega⟩,⟨a',b',by rw[eU,aY];show _+1+_<=_;omega⟩,⟨z.2,z.1⟩,⟨rfl,rfl,⟨⋯,⋯⟩,⋯,⋯⟩,abS (abS d (acS rfl)) d'⟩
theorem aJU{w:Int}(h0:0<=w)(h1:w<8):w.toNat<10^500/\[V.int w]=[V.int (w.toNat:Nat)]/\(num w.toNat).length+1<=sizeLine/\(Cl (num w.toNat++[76])/\SpT true (num w.toNat++[76]) (.one (w%7)))/\OkM true (.one (w%7))/\Asc (num w.toNat++[76]):=by
 obtain⟨a,b,c,d⟩:=ajE (z:=w) ⋯ ⋯;have z:=aU2 w.toNat ⋯;rw[bK ⋯] at z;exact⟨a,b,by rw[eU];omega,⟨z.2,z.1⟩,⟨rfl,rfl,⋯,⋯⟩,abS d (acS rfl)⟩
theorem aC0:FT 1 12 [50] (aaG [2]):=by
 have h:FT 1 12 (aaY 44 [num (2:Int).toNat]) (aaG [[2]].flatten):=auT (.cons (i1 (a:=2) (by decide) (by decide) (by decide) (by decide)) .nil) (dY _ _) (by decide);have e:aaY 44 [num (2:Int).toNat]=[50]:=by decide +kernel
 rw[e] at h;exact h
def az9(t:Int):Prop:=∃y m k:Int,OkD y m k/\abY y m k=t / 1440
noncomputable def hdW(l:List TrX):Option (List Nat):=l.head?.map (·.2.2)
def Cov(m0 m1 m3:Int)(kd kw:Ko):Int->List TrX->Int->Prop
 |b,[],mo=>mo=b
 |b,s::r,mo=>s.1=b/\s.1<=s.2.1/\(∀t,s.1<=t->t<=s.2.1->ae5 m0 m1 m3 kd kw t (.str (Tx s.2.2)))/\az9 s.1/\Asc s.2.2/\hdW r≠some s.2.2/\Cov m0 m1 m3 kd kw (s.2.1+1) r mo
section
variable{m0 m1 m3:Int}{kd kw:Ko}
theorem aBA:∀{sts:List TrX} {b mo:Int},Cov m0 m1 m3 kd kw b sts mo->b<=mo
 |[],_,_,h=>by rw[show _=_ from h];exact aS _
 |s::r,b,mo,⟨h1,h2,_,_,_,_,h⟩=>by
  have:=aBA h;omega
theorem apA(s s':TrX)(r:List TrX)(a b:Int)(tm:List Nat):aiN (s::s'::r) a b tm=s::aiN (s'::r) a b tm:=by
 unfold aiN;rw[List.getLast?_cons_cons];cases e:(s'::r).getLast? with
 |none=>simp at e
 |some z=>
  show (if z.2.2=tm then _ else _)=s::(if z.2.2=tm then _ else _);split<;>rfl
theorem azH(s:TrX)(r:List TrX)(a b:Int)(tm:List Nat):hdW (aiN (s::r) a b tm)=some s.2.2:=by
 cases r with
 |nil=>
  show hdW (if s.2.2=tm then _ else _)=_;split
  ·rename_i c;show some tm=some s.2.2;rw[c]
  ·rfl
 |cons s' r=>rw[apA];rfl
theorem axD{la:Int}{tw:List Nat}:∀{sts:List TrX} {b mo:Int},Cov m0 m1 m3 kd kw b sts mo->mo<=la->(∀t,mo<=t->t<=la->ae5 m0 m1 m3 kd kw t (.str (Tx tw)))->az9 mo->Asc tw->Cov m0 m1 m3 kd kw b (aiN sts mo la tw) (la+1)
 |[],b,mo,h,h1,h2,h3,h4=>by
  obtain rfl:mo=b:=h;exact⟨rfl,h1,h2,h3,h4,(λz=>by cases z),rfl⟩
 |[s],b,mo,⟨a1,a2,a3,a4,a5,a6,a7⟩,h1,h2,h3,h4=>by
  have a7:mo=s.2.1+1:=a7;show Cov m0 m1 m3 kd kw b (if s.2.2=tw then [(s.1,la,tw)] else [s]++[(mo,la,tw)]) (la+1);split
  ·rename_i c;refine⟨a1,by show s.1<=la;omega,λt t1 t2=>?_,a4,h4,(λz=>by cases z),rfl⟩;rcases b9 t mo with w' | w'
   ·show ae5 m0 m1 m3 kd kw t (.str (Tx tw));rw[←c];exact a3 t t1 ⋯
   ·exact h2 t w' t2
  ·rename_i c;exact⟨a1,a2,a3,a4,a5,(λz=>c (aZ z).symm),a7,h1,h2,h3,h4,(λz=>by cases z),rfl⟩
 |s::s'::r,b,mo,⟨a1,a2,a3,a4,a5,a6,a7⟩,h1,h2,h3,h4=>by
  rw[apA];exact⟨a1,a2,a3,a4,a5,by rw[azH];exact a6,axD a7 h1 h2 h3 h4⟩
theorem aQ1{g:Int->Nat->Int}{t:Int}(h:EvG g t):az9 t:=by
 obtain⟨M,a1,a2,_⟩:=h;unfold SM at a1 a2;have up:=abH M;refine⟨M / 12,M%12+1,t / 1440-aaV M+1,⟨⟨⋯,⋯⟩,⋯,?_⟩,?_⟩
 ·show t / 1440-aaV M+1<=af8 M;omega
 ·show db (M / 12)+ahead (M / 12) (M%12+1)+(t / 1440-aaV M+1)-1=t / 1440;have:aaV M=db (M / 12)+ahead (M / 12) (M%12+1):=rfl;omega
end
theorem ahI:Asc [109,111,110,116,104]/\Asc [100,97,121]/\Asc [104,111,117,114]/\Asc [109,105,110,117,116,101]:=⟨acS rfl,acS rfl,acS rfl,acS rfl⟩
theorem aIJ{m0 m1 m3 d r y m k:Int}{kd kw:Ko}{tw:List Nat}(h:shK m0 m1 m3 kd kw d r y m k=.str (Tx tw)):Asc tw:=by
 unfold shK at h;split at h
 ·rw[←aa1 h];exact ahI.1
 split at h
 ·rw[←aa1 h];exact ahI.2.1
 split at h
 ·rw[←aa1 h];exact ahI.2.2.1
 split at h
 ·rw[←aa1 h];exact ahI.2.2.2
 ·cases h
theorem aiR{α β:Type}{F:α->β->Prop}:∀{l:List α} {r:List β},Paired F l r->∀{i:Nat} {a:α},l[i]? =some a->∃b,r[i]? =some b/\F a b
 |_,_,.nil,_,_,h=>nomatch h
 |_,_,.cons r _,0,_,h=>by cases h;exact⟨(),r⟩
 |_,_,.cons _ t,i+1,_,h=>aiR t h
theorem azW{K:FG}{H H':Hp}{a:Addr}{xs:List V}(e:SameN H H')(h:SqL K H a xs):SqL K H' a xs:=by
 rcases h with (h | ⟨o,h⟩) | h
 ·exact .inl (.inl (e _ _ (λ_ z=>by cases z) h))
 ·exact .inl (.inr ⟨o,e _ _ (λ_ z=>by cases z) h⟩)
 ·exact .inr h
theorem as5:∀l∈ls4,∀d∈acF,d<=l->tb (2*2^l.toNat-2) d.toNat=true:=by decide +kernel
theorem aBR:∀l∈ls4,∀b∈0::acF,∀d∈acF,d<=l->tb (aq2 b l) d.toNat=decide (d=l-b):=by decide +kernel
theorem aBK:∀l∈ls4,∀f∈fs7,∀x∈acF,∀d∈acF,d<=l->tb (arF x l f) d.toNat=(decide (x<=l)&&decide (d=nw x l f)):=by decide +kernel
theorem aC1:∀l∈ls4,∀f∈fs7,∀w∈fs7,∀m∈ms5,∀d∈acF,d<=l->tb (ahS w m l f) d.toNat=(decide ((f+d-1)%7=w)&&decide ((d-1) / 7=m-1)):=by decide +kernel
theorem aDQ:∀l∈ls4,∀f∈fs7,∀w∈fs7,∀d∈acF,d<=l->tb (aAR w l f) d.toNat=(decide ((f+d-1)%7=w)&&decide (l<d+7)):=by decide +kernel
noncomputable def okW(l f x:Int):Bool:=decide (1<=x)&&decide (x<=l)&&(decide (1<=(f+x-1)%7)&&decide ((f+x-1)%7<=5))
noncomputable def amJ(l f:Int):List Int->Int
 |[]=>0
 |x::r=>if okW l f x=true then x else amJ l f r
theorem aA6:∀l∈ls4,∀f∈fs7,∀d∈acF,d<=l->amJ l f [d-0,d+0,d-1,d+1,d-2,d+2]=nw d l f:=by decide +kernel
def Dl(d l:Int):Prop:=1<=d/\d<=l
theorem aE7{m l f d:Int}(h:0<=m)(hl:Lf l f)(hd:Dl d l):tb (Mk.due (.num m) l f) d.toNat=tb m d.toNat:=by
 show tb (Builtin.bitAnd m (2*2^l.toNat-2)) d.toNat=_;have h1:=hl.1;have h2:=hd.1;have h3:=hd.2;rw[adQ h (by have:=aaN l.toNat;omega),as5 l (adG h1.1 h1.2) d (alJ h2 ⋯) h3,Bool.and_true]
theorem aGI{b l f d:Int}(h:0<=b/\b<=30)(hl:Lf l f)(hd:Dl d l):tb (Mk.due (.lst b) l f) d.toNat=decide (d=l-b):=
 aBR l (adG hl.1.1 hl.1.2) b (in_b h.1 h.2) d (alJ hd.1 (bR hd.2 hl.1.2)) hd.2
theorem ayL{x l f d:Int}(h:1<=x/\x<=31)(hl:Lf l f)(hd:Dl d l):tb (Mk.due (.nea x) l f) d.toNat=(decide (x<=l)&&decide (d=nw x l f)):=
 aBK l (adG hl.1.1 hl.1.2) f (adH hl.2.1 hl.2.2) x (alJ h.1 h.2) d (alJ hd.1 (bR hd.2 hl.1.2)) hd.2
theorem aGX{w m l f d:Int}(hw:0<=w/\w<=6)(hm:1<=m/\m<=5)(hl:Lf l f)(hd:Dl d l):tb (Mk.due (.nth w m) l f) d.toNat=(decide ((f+d-1)%7=w)&&decide ((d-1) / 7=m-1)):=
 aC1 l (adG hl.1.1 hl.1.2) f (adH hl.2.1 hl.2.2) w (adH hw.1 hw.2) m (aKE hm.1 hm.2) d (alJ hd.1 (bR hd.2 hl.1.2)) hd.2
theorem aGE{w l f d:Int}(hw:0<=w/\w<=6)(hl:Lf l f)(hd:Dl d l):tb (Mk.due (.one w) l f) d.toNat=(decide ((f+d-1)%7=w)&&decide (l<d+7)):=
 aDQ l (adG hl.1.1 hl.1.2) f (adH hl.2.1 hl.2.2) w (adH hw.1 hw.2) d (alJ hd.1 (bR hd.2 hl.1.2)) hd.2
theorem aCP{d l f:Int}(hl:Lf l f)(hd:Dl d l):amJ l f [d-0,d+0,d-1,d+1,d-2,d+2]=nw d l f:=aA6 l (adG hl.1.1 hl.1.2) f (adH hl.2.1 hl.2.2) d (alJ hd.1 (bR hd.2 hl.1.2)) hd.2
def MkD(H:Hp)(v:V)(k:Mk):Prop:=∃(u:Addr) (x y:V) (tw:List Nat),v=.ref u/\H u=some (.tup [.str (Tx tw),x,y])/\match k with
 |.num m=>tw=[110,117,109]/\∃(a:Addr) (ns:List Int),x=.ref a/\H a=some (.lst (ns.map V.int))/\m=aaG ns/\∀n∈ns,1<=n/\n<=31
 |.lst b=>tw=[108,97,115,116]/\x=.int b
 |.nea d=>tw=[110,101,97,114]/\x=.int d
 |.nth w m=>tw=[110,116,104]/\x=.int w/\y=.int m
 |.wrk=>tw=[119,111,114,107]
 |.wkd m=>tw=[119,101,101,107]/\∃(a:Addr) (ns:List Int),x=.ref a/\H a=some (.lst (ns.map V.int))/\m=aaG ns/\∀n∈ns,0<=n/\n<=6
 |.one w=>tw=[101,110,100,105,110,103]/\x=.int w
 |.nil=>False
theorem MkD.keep{H H':Hp}(s:Same H H'){v:V}{k:Mk}(h:MkD H v k):MkD H' v k:=by
 obtain⟨u,x,y,tw,e,hu,h⟩:=h;refine⟨u,x,y,tw,e,s _ _ hu,?_⟩;cases k with
 |num m=>obtain⟨e,a,ns,e2,ha,r⟩:=h;exact⟨e,a,ns,e2,s _ _ ha,r⟩
 |lst b=>exact h
 |nea d=>exact h
 |nth w m=>exact h
 |wkd m=>obtain⟨e,a,ns,e2,ha,r⟩:=h;exact⟨e,a,ns,e2,s _ _ ha,r⟩
 |_=>exact h
def MV(H:Hp)(v:V)(ko:Ko):Prop:=(ko=none/\v=.non)∨∃(a:Addr) (us:List V) (ks:List Mk),ko=some ks/\v=.ref a/\H a=some (.lst us)/\Paired (MkD H) us ks/\∀k∈ks,k.ok
theorem MV.keep{H H':Hp}(s:Same H H'){v:V}{ko:Ko}(h:MV H v ko):MV H' v ko:=by
 rcases h with h | ⟨a,us,ks,e,e2,ha,hP,ok⟩
 ·exact .inl h
 ·exact .inr ⟨a,us,ks,e,e2,s _ _ ha,Paired.mapP hP (λ_ _ z=>z.keep s),ok⟩
theorem aK1{ks:List Mk}{l f:Int}(hl:Lf l f)(o:∀k∈ks,k.ok)(i:Nat):tb (orK ks l f) i=ks.any (λk=>tb (k.due l f) i):=by
 unfold orK;rw[ab5 (λz hz=>by
  obtain⟨k,hk,rfl⟩:=bD.mp hz;exact amA (o k hk) hl),List.any_map]
 rfl
theorem aBT{d:Int}{i j:Nat}{x:V}(hi3:i<3)(hx:[V.int (d-(0+(i:Int))),V.int (d+(0+(i:Int)))][j]? =some x):∃z:Int,x=.int z/\[d-0,d+0,d-1,d+1,d-2,d+2].drop (2*i+j)=z::[d-0,d+0,d-1,d+1,d-2,d+2].drop (2*i+(j+1)):=by
 have hj:j<2:=by
  rcases cL j 2 with w' | w'
  ·exact w'
  ·rw[eE (by exact w')] at hx;cases hx
 match i,j,hi3,hj,hx with
 |0,0,_,_,hx=>cases hx;exact⟨(),rfl⟩
 |0,1,_,_,hx=>cases hx;exact⟨(),rfl⟩
 |1,0,_,_,hx=>cases hx;exact⟨(),rfl⟩
 |1,1,_,_,hx=>cases hx;exact⟨(),rfl⟩
 |2,0,_,_,hx=>cases hx;exact⟨(),rfl⟩
 |2,1,_,_,hx=>cases hx;exact⟨(),rfl⟩
theorem adK(a b:Int):decide (V.int a=V.int b)=decide (a=b):=decide_eq_decide.mpr int_eq
theorem ahU{α:Type}{p q:α->Bool}:∀{l:List α},(∀x∈l,p x=q x)->l.any p=l.any q
 |[],_=>rfl
 |x::r,h=>by rw[bQ,bQ,h x bE,ahU λy hy=>h y (bF _ hy)]
noncomputable def orP(ko:Ko)(l f:Int)(i:Nat):Bool:=match ko with
 |none=>false
 |some ks=>ks.any λk=>tb (k.due l f) i
theorem aiZ{ko:Ko}{a l f:Int}(hl:Lf l f)(o:∀ks,ko=some ks->∀k∈ks,k.ok)(ha:0<=a)(i:Nat):tb (orO ko a l f) i=(tb a i||orP ko l f i):=by
 cases ko with
 |none=>show tb a i=(tb a i||false);rw[Bool.or_false]
 |some ks=>
  show tb (Builtin.bitOr a (orK ks l f)) i=_;rw[apH ha (awF hl (o ks rfl)),aK1 hl (o ks rfl)];rfl
theorem aBG{kd kw:Ko}{d l f:Int}(hl:Lf l f)(hd:Dl d l)(od:∀ks,kd=some ks->∀k∈ks,k.ok)(ow:∀ks,kw=some ks->∀k∈ks,k.ok):tb (aaO kd kw l f) d.toNat=((kd.isNone&&kw.isNone)||(orP kd l f d.toNat||orP kw l f d.toNat)):=by
 unfold aaO;split
 ·rename_i c;rw[as5 l (adG hl.1.1 hl.1.2) d (alJ hd.1 (bR hd.2 hl.1.2)) hd.2,c.1,c.2];rfl
 ·rename_i c;have e:(kd.isNone&&kw.isNone)=false:=by
   cases h1:kd.isNone
   ·rfl
   ·cases h2:kw.isNone
    ·rfl
    ·exact absurd ⟨h1,h2⟩ c
  rw[e,dG,aiZ hl ow (afV (b:=false) hl od (aS 0)),aiZ hl od (aS 0),aaQ,dG]
theorem MV.ok{H:Hp}{v:V}{ko:Ko}(h:MV H v ko):∀ks,ko=some ks->∀k∈ks,k.ok:=λks e=>by
 rcases h with ⟨z,_⟩ | ⟨_,_,ks',e',_,_,_,o⟩
 ·rw[z] at e;cases e
 ·rw[e'] at e;cases e;exact o
theorem aEC{l f d:Int}(hl:Lf l f)(hd:Dl d l):tb (Mk.due .wrk l f) d.toNat=decide (d=nw l l f):=by
 have z:=ayL (x:=l) (by have:=hl.1;omega) hl hd;have e:Mk.due (.nea l) l f=Mk.due .wrk l f:=if_neg ⋯;rw[e,eZ (aS l),cY] at z;exact z
theorem aGD{l f d:Int}{ns:List Int}(ok:0<=aaG ns/\aaG ns<=127)(hns:∀n∈ns,0<=n/\n<=6)(hl:Lf l f)(hd:Dl d l):tb (Mk.due (.wkd (aaG ns)) l f) d.toNat=inV (.int ((f+d-1)%7)) (ns.map V.int):=by
 show tb (wkD (aaG ns) l f) d.toNat=_;have h1:=hd.1;have h2:=hd.2;rw[apR ok.1 ok.2 hl,eZ (show 1<=d.toNat by omega),eZ (show (d.toNat:Int)<=l by omega),show (d.toNat:Int)=d by omega,abA,alK];show (_:Bool)=_;exact ahU λn hn=>decide_eq_decide.mpr (by have:=hns n hn;have:=cG (f+d-1) (show (7:Int)≠0 by decide);omega)
theorem aET{ns:List Int}(hns:∀n∈ns,0<=n/\n<=7):wk7 (aaG ns)=aaG (ns.map λd=>d%7):=by
 refine abR (aeJ (aa9 _) 0).1 (aa9 _) λi=>?_;rw[(aeJ (aa9 ns) i).2,abA,abA,abA,List.any_map,c8];simp only[bH,cW,cN,fB,Function.comp];constructor
 ·rintro⟨⟨n,hn,e⟩ | ⟨n,hn,e⟩,h7⟩
  ·exact⟨n,hn,by have:=hns n hn;omega⟩
  ·exact⟨n,hn,by have:=hns n hn;omega⟩
 ·rintro⟨n,hn,e⟩;have:=hns n hn;refine⟨?_,⋯⟩;by_cases c:n=7
  ·exact .inr ⟨n,hn,⋯⟩
  ·exact .inl ⟨n,hn,⋯⟩
noncomputable def wkL(l f:Int):List Int:=[l-2,l-1,l].filter λk=>decide (1<=(f+k-1)%7)&&decide ((f+k-1)%7<=5)
theorem aE5:∀l∈ls4,∀f∈fs7,0<(wkL l f).length/\∀M∈wkL l f,(∀a∈wkL l f,a<=M)->M=nw l l f:=by decide +kernel
def LS(H:Hp)(s:Addr)(ns0 ns1 ns3:List Int)(kd kw:Ko):Prop:=∃(x0 v3 v5:V) (a0 a1 a3:Addr),H s=some (.tup [x0,.ref a0,.ref a1,v3,.ref a3,v5])/\H a0=some (.lst (ns0.map V.int))/\H a1=some (.lst (ns1.map V.int))/\H a3=some (.lst (ns3.map V.int))/\MV H v3 kd/\MV H v5 kw/\(∀n∈ns0,0<=n/\n<=59)/\(∀n∈ns1,0<=n/\n<=23)/\∀n∈ns3,1<=n/\n<=12
theorem LS.keep{H H':Hp}{s:Addr}{ns0 ns1 ns3:List Int}{kd kw:Ko}(e:Same H H')(h:LS H s ns0 ns1 ns3 kd kw):LS H' s ns0 ns1 ns3 kd kw:=by
 obtain⟨x0,v3,v5,a0,a1,a3,h1,h2,h3,h4,h5,h6,h7⟩:=h;exact⟨x0,v3,v5,a0,a1,a3,e _ _ h1,e _ _ h2,e _ _ h3,e _ _ h4,h5.keep e,h6.keep e,h7⟩
theorem LS.all{H:Hp}{s:Addr}{ns0 ns1 ns3:List Int}{kd kw:Ko}(h:LS H s ns0 ns1 ns3 kd kw):((∀ks,kd=some ks->∀k∈ks,k.ok)/\∀ks,kw=some ks->∀k∈ks,k.ok)/\(∀n∈ns0,0<=n/\n<=59)/\(∀n∈ns1,0<=n/\n<=23)/\∀n∈ns3,1<=n/\n<=12:=by
 obtain⟨_,_,_,_,_,_,_,_,_,_,h5,h6,h7⟩:=h;exact⟨⟨h5.ok,h6.ok⟩,h7⟩
theorem ajT{ns:List Int}{z:Int}(h:∀n∈ns,0<=n)(hz:0<=z):inV (.int z) (ns.map V.int)=tb (aaG ns) z.toNat:=by
 rw[alK,abA];exact ahU λn hn=>decide_eq_decide.mpr (by have:=h n hn;omega)
theorem ac9(ns:List Int):(ns.map V.int).all afD=true:=bV.mpr λx hx=>by obtain⟨n,_,rfl⟩:=bD.mp hx;rfl
noncomputable def wN:V->V
 |.non=>.str (Tx [110,111,110,101])
 |v=>v
theorem alL{b:Bool}{ws:List (List Nat)}{ks:List Mk}(h:Ws b ws ks)(hne:ws≠[])(hn:ws.length<=20)(ho:∀k∈ks,k.sp=true/\k.wk=b/\k.ok)(n:aaY 44 ws≠[42]):DT b (aaY 44 ws) (some ks):=by
 have w:=aG2 h hne hn;exact⟨⟨ajJ (by decide) λx hx=>(h.cl x hx).1.2,awY hne (λx hx=>(h.cl x hx).2.1) 44⟩,w.2,n,ho,aAS h w.1⟩
theorem aEJ{H:Hp}{a:Addr}{o:HO}:era (upd H a o) a=era H a:=funext λb=>by
 by_cases c:b=a
 ·subst c;rw[abN,abN]
 ·rw[aaZ c,aaZ c,aaD c]
theorem aAI{H H':Hp}{a:Addr}(s:Same H H'):Same (era H a) (era H' a):=λb o e=>by
 obtain⟨n,e⟩:=aqT e;rw[aaZ n];exact s _ _ e
theorem era_sub{H:Hp}{a:Addr}:Same (era H a) H:=λ_ _ e=>(aqT e).2
theorem rr5{d:Int}(h0:0<=d)(h1:d<8):DT true (num d.toNat++[35,53]) (some [.nth (d%7) 5]):=by
 have z:=aHH d.toNat ⋯ 5 (by decide) (by decide);have e:num d.toNat++[35]++num 5=num d.toNat++[35,53]:=by rw[d8];rfl
 rw[e,bK h0] at z;exact alL (ws:=[num d.toNat++[35,53]]) (ks:=[.nth (d%7) 5]) (.cons ⟨z.2,z.1⟩ .nil) (dY _ _) (by show 1<=20;decide) (λk hk=>by rw[bJ.mp hk];exact⟨rfl,rfl,⟨⋯,⋯⟩,by decide,by decide⟩) (λy=>by
  have:=congrArg (λl:List Nat=>l.getLast?) y;change (num d.toNat++[35,53]).getLast? =_ at this;rw[List.getLast?_append] at this;cases this)
noncomputable def ajA(H:Hp)(T S:Addr):Hp:=era (era H T) S
theorem axC{H H':Hp}{T S:Addr}(s:Same H H'):Same (ajA H T S) (ajA H' T S):=aAI (aAI s)
theorem atF{H:Hp}{T S:Addr}:Same (ajA H T S) H:=era_sub.trans era_sub
theorem aCB{H:Hp}{T S:Addr}{o:HO}:ajA (upd H T o) T S=ajA H T S:=by unfold ajA;rw[aEJ]
theorem aCO{H:Hp}{T S:Addr}{o:HO}:ajA (upd H S o) T S=ajA H T S:=funext λb=>by
 unfold ajA;by_cases c:b=S
 ·subst c;rw[abN,abN]
 ·rw[aaZ c,aaZ c];by_cases c':b=T
  ·subst c';rw[abN,abN]
  ·rw[aaZ c',aaZ c',aaD c]
theorem acI{H:Hp}{T S b:Addr}{o:HO}(h1:b≠T)(h2:b≠S)(h:H b=some o):ajA H T S b=some o:=by
 unfold ajA;rw[aaZ h2,aaZ h1];exact h
theorem abQ{H:Hp}{a b:Addr}{o:HO}(h:H b=some o)(n:H a=none):a≠b:=λe=>by rw[e,h] at n;cases n
theorem ayF{H:Hp}{a b:Addr}{ns:List Int}{xs:List V}(h:H a=some (.lst (ns.map V.int)))(hn:ns≠[])(h':H b=some (.lst xs))(n:∀i:Int,V.int i∉xs):a≠b:=λe=>by
 rw[e,h'] at h;cases ns with
 |nil=>exact hn rfl
 |cons x r=>
  have e:xs=V.int x::r.map V.int:=by injection (aZ h)
  exact n x (by rw[e];exact bE)
theorem aEO(ws:List (List Nat))(i:Int):V.int i∉ws.map λx=>V.str (Tx x):=λh=>by obtain⟨_,_,e⟩:=bD.mp h;cases e
theorem aED(us:List Addr)(i:Int):V.int i∉us.map V.ref:=λh=>by obtain⟨_,_,e⟩:=bD.mp h;cases e
def WdE(b:Bool)(c:Int)(bm:Bool)(p T S:Addr)(i:Nat)(w1 w2 w3 w4 w5:Int)(u0:Addr)(H2:Hp)(σ':L2.St)(H':Hp):Prop:=∃(tw':List Nat) (k':Mk) (mk:Addr),σ'=[some (.int c),some (.bl bm),some (.ref p),some (.ref T),some (.ref S),some (.int (0+(i:Int))),some (.int w1),some (.int w2),some (.int w3),some (.int w4),some (.int w5),some (.str (Tx tw')),some (.ref u0),some (.ref mk)]/\Same H2 H'/\(Cl tw'/\SpT b tw' k')/\OkM b k'/\Asc tw'/\MkD (ajA H' T S) (.ref mk) k'
def InE(b:Bool)(c:Int)(bm:Bool)(p T S:Addr)(H3:Hp)(i:Nat)(σ:L2.St)(H2:Hp):Prop:=∃(v5 v6 v7 v8 v9 v10 v11 v12 v13:Option V) (ws:List (List Nat)) (us:List Addr) (ks:List Mk),σ=[some (.int c),some (.bl bm),some (.ref p),some (.ref T),some (.ref S),v5,v6,v7,v8,v9,v10,v11,v12,v13]/\Same H3 H2/\H2 T=some (.lst (ws.map λx=>V.str (Tx x)))/\H2 S=some (.lst (us.map V.ref))/\Ws b ws ks/\(∀k∈ks,OkM b k)/\(∀w∈ws,Asc w)/\ws.length=i/\us.length=i/\Paired (MkD (ajA H2 T S)) (us.map V.ref) ks
theorem aoK{b:Bool}{ws:List (List Nat)}{ks:List Mk}(h:Ws b ws ks)(e:aaY 44 ws=[42]):ws=[[42]]:=by
 match ws,h,e with
 |[],_,e=>cases e
 |[x],_,e=>rw[show x=[42] from e]
 |x::y::r,_,e=>
  have m:44∈aaY 44 (x::y::r):=cD x bE;rw[e] at m;exact absurd m (by decide)
theorem aI7:DT false [50,57] (some [.num (aaG [29])]):=by
 have it:=i1 (lo:=1) (hi:=31) (a:=29) (by decide) (by decide) (by decide) (by decide);have hp:=ajU (ns:=[29]) (dY _ _) (λn hn=>by rw[bJ.mp hn];decide);have h:=alL (ws:=[num (29:Int).toNat]) (ks:=[.num (aaG [29])]) (.cons ⟨it.2.1,rfl,it.1,hp⟩ .nil) (dY _ _) (by decide) (λk hk=>by rw[bJ.mp hk];exact⟨rfl,rfl,bN hp⟩) (by decide +kernel);have e:aaY 44 [num (29:Int).toNat]=[50,57]:=by decide +kernel
 rw[e] at h;exact h
theorem lt32:∀l∈ls4,(2*2^l.toNat-2:Int)<2^32:=by decide +kernel
theorem aFX:∀l∈ls4,∀l'∈ls4,l<=l'->∀i:Nat,tb (2*2^l.toNat-2) i=true->tb (2*2^l'.toNat-2) i=true:=by
 intro l hl l' hl' hle i hi;have hi32:i<32:=by
  rcases cL i 32 with c | c
  ·exact c
  ·rw[adI (lt32 l hl) c] at hi;cases hi
 have key:∀l∈ls4,∀l'∈ls4,l<=l'->∀i:Nat,i<32->tb (2*2^l.toNat-2) i=true->tb (2*2^l'.toNat-2) i=true:=by decide +kernel
 exact key l hl l' hl' hle i hi32 hi
theorem aJA:∀m∈apF,m≠0->∀l∈ls4,∀f∈fs7,wkD m l f≠0:=by decide +kernel
theorem aI4:∀l∈ls4,∀f∈fs7,wkD 0 l f=0:=by decide +kernel
theorem aEN:∀w∈fs7,∀n∈ms5,∀l∈ls4,∀l'∈([30,31]:List Int),l<=l'->∀f∈fs7,ahS w n l f≠0->∃a∈fs7,ahS w n l' a≠0/\ahS w n l' ((a+1)%7)≠0/\(l'=31->ahS w n l' ((a+2)%7)≠0):=by decide +kernel
theorem aq7(n:Nat):(1:Int)*2^n≠0:=by
 have:=aaN n;omega
theorem aE3{k:Mk}{l l' f:Int}(hk:k.ok)(h:Lf l f)(hl':30<=l'/\l'<=31)(hle:l<=l')(hne:k.due l f≠0):∃a:Int,(0<=a/\a<=6)/\k.due l' a≠0/\k.due l' ((a+1)%7)≠0/\(l'=31->k.due l' ((a+2)%7)≠0):=by
 have h1:=h.1;have two:(∀f':Int,0<=f'->f'<=6->k.due l' f'≠0)->∃a:Int,(0<=a/\a<=6)/\k.due l' a≠0/\k.due l' ((a+1)%7)≠0/\(l'=31->k.due l' ((a+2)%7)≠0):=λz=>⟨0,by decide,z 0 (by decide) (by decide),z _ (by decide) (by decide),λ_=>z _ (by decide) (by decide)⟩;have i':l'∈ls4:=adG ⋯ hl'.2;cases k with
 |num m=>
  refine two λf' _ _=>?_;intro z;have hn:ahF m l≠0:=hne;have z:ahF m l'=0:=z;have nn:∀x:Int,0<=(2:Int)*2^x.toNat-2:=λx=>by have:=aaN x.toNat;omega
  refine hn (abR (aiU hk (nn l)) (aS 0) λi=>?_);rw[aaQ];have e:=congrArg (λx=>tb x i) z;simp only[aaQ] at e;unfold ahF at e ⊢;rw[adQ hk (nn _)] at e ⊢;cases c:tb (2*2^l.toNat-2) i
  ·exact cM _
  ·have:=aFX l (adG h1.1 h1.2) l' i' hle i c;rw[this] at e;rw[←e]
 |lst b=>
  refine two λf' _ _=>?_;show (if l'<=b then (0:Int) else 1*2^(l'-b).toNat)≠0;have hn:(if l<=b then (0:Int) else 1*2^(l-b).toNat)≠0:=hne;split at hn
  ·exact absurd rfl hn
  ·rw[if_neg ⋯];exact aq7 _
 |nea d=>
  refine two λf' _ _=>?_;show (if l'<d then (0:Int) else 1*2^(nw d l' f').toNat)≠0;have hn:(if l<d then (0:Int) else 1*2^(nw d l f).toNat)≠0:=hne;split at hn
  ·exact absurd rfl hn
  ·rw[if_neg ⋯];exact aq7 _
 |wrk=>exact two λ_ _ _=>aq7 _
 |wkd m=>
  have hm:m≠0:=λz=>hne (by rw[z];exact aI4 l (adG h1.1 h1.2) f (adH h.2.1 h.2.2));exact two λf' a b=>aJA m (aBE hk.1 hk.2) hm l' i' f' (adH a b)
 |nth w n=>
  obtain⟨a,ha,z⟩:=aEN w (adH hk.1.1 hk.1.2) n (aKE hk.2.1 hk.2.2) l (adG h1.1 h1.2) l' (by
   have:l'=30∨l'=31:=⋯;rcases this with rfl | rfl<;>decide) hle f (adH h.2.1 h.2.2) hne
  refine⟨a,?_,z⟩;simp only[fs7,aX,cF,or_false] at ha;omega
 |one w=>exact two λ_ _ _=>aq7 _
 |nil=>exact absurd rfl hne
theorem awW{kd kw:Ko}{l l' f:Int}(od:∀ks,kd=some ks->∀k∈ks,k.ok)(ow:∀ks,kw=some ks->∀k∈ks,k.ok)(h:Lf l f)(hl':30<=l'/\l'<=31)(hle:l<=l')(hne:aaO kd kw l f≠0):∃a:Int,(0<=a/\a<=6)/\aaO kd kw l' a≠0/\aaO kd kw l' ((a+1)%7)≠0/\(l'=31->aaO kd kw l' ((a+2)%7)≠0):=by
 by_cases c:kd.isNone=true/\kw.isNone=true
 ·have e:∀x,aaO kd kw l' x≠0:=λx=>by
   unfold aaO;rw[if_pos c];have:=aaN l'.toNat;have e2:(2:Int)^l'.toNat=2^(l'.toNat-1)*2:=by rw[←Int.pow_succ,show (l'.toNat-1).succ=l'.toNat by omega]
   have:=aaN (l'.toNat-1);omega
  exact⟨0,by decide,e _,e _,λ_=>e _⟩
 ·have bit:∀{a b:Int} (i:Nat),Lf a b->tb (aaO kd kw a b) i=(orP kd a b i||orP kw a b i):=λ{a b} i hab=>by
   unfold aaO;rw[if_neg c,aiZ hab ow (afV (b:=false) hab od (aS 0)),aiZ hab od (aS 0),aaQ,dG]
  obtain⟨i,hi⟩:∃i,tb (aaO kd kw l f) i=true:=Classical.byContradiction λn=>hne (abR (ahP h od ow) (aS 0) λi=>by
   rw[aaQ];cases z:tb (aaO kd kw l f) i
   ·rfl
   ·exact absurd ⟨i,z⟩ n)
  rw[bit i h,cW] at hi;have one:∀{ko:Ko},(∀ks,ko=some ks->∀k∈ks,k.ok)->orP ko l f i=true->(∀{a b:Int} (j:Nat),orP ko a b j=true->(orP kd a b j||orP kw a b j)=true)->∃a:Int,(0<=a/\a<=6)/\aaO kd kw l' a≠0/\aaO kd kw l' ((a+1)%7)≠0/\(l'=31->aaO kd kw l' ((a+2)%7)≠0):=λ{ko} oo ho up=>by
   cases ko with
   |none=>cases ho
   |some ks=>
    obtain⟨k,hk,hb⟩:=cN.mp ho;have ok:=oo ks rfl k hk;obtain⟨a,ha,z1,z2,z3⟩:=aE3 ok h hl' hle (λz=>by rw[z,aaQ] at hb;cases hb);have fin:∀x:Int,0<=x->x<=6->k.due l' x≠0->aaO kd kw l' x≠0:=λx x0 x1 hx hz=>by
     have lf:Lf l' x:=⟨⟨⋯,hl'.2⟩,x0,x1⟩;obtain⟨j,hj⟩:∃j,tb (k.due l' x) j=true:=Classical.byContradiction λn=>hx (abR (amA ok lf) (aS 0) λj=>by
      rw[aaQ];cases z:tb (k.due l' x) j
      ·rfl
      ·exact absurd ⟨j,z⟩ n)
     have y:=bit j lf;rw[hz,aaQ,up j (cN.mpr ⟨k,hk,hj⟩)] at y;cases y
    exact⟨a,ha,fin a ha.1 ha.2 z1,fin _ ⋯ ⋯ z2,λq=>fin _ ⋯ ⋯ (z3 q)⟩
  rcases hi with hi | hi
  ·exact one od hi λj z=>by rw[z];rfl
  ·exact one ow hi λj z=>by rw[z,Bool.or_true]
theorem wn{K a o:Nat}(h:K%7=(a+o)%7):((K:Nat):Int)%7=((a:Int)+(o:Int))%7:=⋯
noncomputable def win1(r m a:Nat):Bool:=(List.range 7).any λj=>(λx=>Nat.beq x ((a+0)%7)||Nat.beq x ((a+1)%7)) (ah9 (adX (r+j)) m%7)
theorem aF2:((List.range 400).all λr=>(List.range 12).all λm=>Nat.beq m 1||(List.range 7).all λa=>win1 r m a)=true:=by decide +kernel
theorem anK{n:Nat}{p:Nat->Bool}(h:(List.range n).all p=true){k:Nat}(hk:k<n):p k=true:=bV.mp h k (cT.mpr hk)
theorem aDW{n:Nat}{p:Nat->Bool}(h:(List.range n).any p=true):∃k,k<n/\p k=true:=by
 obtain⟨k,hk,e⟩:=cN.mp h;exact⟨k,cT.mp hk,e⟩
theorem a7{a:Int}(h0:0<=a)(h1:a<=6):∃n:Nat,a=(n:Int)/\n<7:=⟨a.toNat,⋯,⋯⟩
theorem aK2{y m a:Int}(h1:1<=m)(h2:m<=12)(n2:m≠2)(a0:0<=a)(a6:a<=6):∃j:Nat,j<7/\(kindOf (y+j) m%7=a%7∨kindOf (y+j) m%7=(a+1)%7):=by
 obtain⟨n,rfl,hn⟩:=a7 a0 a6;obtain⟨q,rfl,hq,nq⟩:∃q:Nat,m=(q:Int)+1/\q<12/\q≠1:=⟨(m-1).toNat,⋯,⋯,⋯⟩;have z:=anK (anK aF2 (show (y%400).toNat<400 by omega)) hq;rw[cW] at z;obtain⟨j,hj,hx⟩:=aDW (anK (z.resolve_left λe=>nq (dM e)) hn);refine⟨j,hj,?_⟩;rw[ai3 y ⋯ hq];exact ((cW _ _).mp hx).imp (λe=>by have:=wn (o:=0) (dM e);rw[this];rfl) (λe=>wn (o:=1) (dM e))
theorem ajD{y m:Int}(h1:1<=m)(h2:m<=12)(n2:m≠2):aaF y m=aaF 1 m/\30<=aaF 1 m/\aaF 1 m<=31:=by
 refine⟨by unfold aaF;rw[if_neg n2,if_neg n2],?_⟩;have key:∀n:Nat,n<12->n≠1->30<=lasts.getD n 0/\lasts.getD n 0<=31:=by decide
 unfold aaF;rw[if_neg n2];exact key _ ⋯ ⋯
theorem axY:∀k:Nat,k<91->(mnA (k:Int)≠2->lnA (k:Int)=aaF 1 (mnA (k:Int)))/\(mnA (k:Int)=2->lnA (k:Int)<=29):=by decide +kernel
theorem aBM{m3 k:Int}{kd kw:Ko}(h:dIn m3 kd kw k≠0):tb m3 (mnA k).toNat=true/\aaO kd kw (lnA k) (k%7)≠0:=by
 unfold dIn at h;split at h
 ·rename_i c;exact⟨c,h⟩
 ·exact absurd rfl h
theorem au4{m3 y m:Int}{kd kw:Ko}(h1:1<=m)(h2:m<=12)(hm:tb m3 m.toNat=true)(h:aaO kd kw (aaF y m) (kindOf y m%7)≠0):dIn m3 kd kw (kindOf y m)≠0:=by
 have e:=acH (y:=y) h1 h2;unfold dIn;rw[e.1,e.2,if_pos hm];exact h
theorem auJ{y m:Int}(h1:1<=m)(h2:m<=12):aa5 (12*y+m-1)=kindOf y m:=by
 unfold aa5;rw[show (12*y+m-1) / 12=y by omega,show (12*y+m-1)%12+1=m by omega]
theorem avA{m3:Int}{kd kw:Ko}(od:∀ks,kd=some ks->∀k∈ks,k.ok)(ow:∀ks,kw=some ks->∀k∈ks,k.ok){k:Nat}(hk:k<91)(hne:dIn m3 kd kw (k:Int)≠0){mo:Int}(o1:1<=mo)(o2:mo<=12)(on:mo≠2)(ob:tb m3 mo.toNat=true)(M0:Int):∃M,M0<M/\M<=M0+84/\dIn m3 kd kw (aa5 M)≠0:=by
 obtain⟨hb,hd⟩:=aBM hne;have ml:=adJ (k:=(k:Int)) ⋯ ⋯;obtain⟨m',p1,p2,pn,pb,ple⟩:∃m':Int,1<=m'/\m'<=12/\m'≠2/\tb m3 m'.toNat=true/\lnA (k:Int)<=aaF 1 m':=by
  by_cases c:mnA (k:Int)=2
  ·have:=(axY k hk).2 c;exact⟨mo,o1,o2,on,ob,by have:=(ajD (y:=1) o1 o2 on).2.1;omega⟩
  ·exact⟨mnA (k:Int),ml.1.1,ml.1.2,c,hb,by rw[(axY k hk).1 c];exact aS _⟩
 have lo:=(ajD (y:=1) p1 p2 pn).2;obtain⟨a,ha,z1,z2,_⟩:=awW od ow ml.2 lo ple hd;obtain⟨j,hj,hx⟩:=aK2 (y:=(M0-m'+13) / 12) (m:=m') (a:=a) p1 p2 pn ha.1 ha.2;refine⟨12*((M0-m'+13) / 12+(j:Int))+m'-1,⋯,⋯,?_⟩;rw[auJ p1 p2];refine au4 p1 p2 pb ?_;rw[(ajD p1 p2 pn).1];rcases hx with hx | hx
 ·rw[hx,Int.emod_eq_of_lt ha.1 ⋯];exact z1
 ·rw[hx];exact z2
theorem aFI{m3:Int}{kd kw:Ko}{k:Nat}(hk:k<91)(hne:dIn m3 kd kw (k:Int)≠0)(M0:Int):∃M,M0<M/\M<=M0+480/\dIn m3 kd kw (aa5 M)≠0:=by
 have mo:=auB (k:=(k:Int)) ⋯ ⋯;obtain⟨j,hj,hx,_⟩:=aoH (k:=(k:Int)) ⋯ ⋯ ((M0-ae1 (k:Int)+13) / 12);have hb:bnd (k:Int)<=40:=by unfold bnd;split<;>omega
 refine⟨12*((M0-ae1 (k:Int)+13) / 12+(j:Int))+ae1 (k:Int)-1,⋯,⋯,?_⟩;rw[auJ mo.1 mo.2,hx];exact hne
theorem ayD:∀{l A:List Int},l.Pairwise (·<·)->(∀x∈l,x∈A)->l.length<=A.length
 |[],_,_,_=>bM _
 |x::r,A,hp,h=>by
  have hx:=h x bE;have hp':=dJ.mp hp;have z:=ayD (A:=A.erase x) hp'.2 λy hy=>(List.mem_erase_of_ne (by have:=hp'.1 y hy;omega)).mpr (h y (bF _ hy));have e:=List.length_erase_of_mem hx;have p:0<A.length:=List.length_pos_of_mem hx;show r.length+1<=A.length;omega
section
variable{m0 m1 m3:Int}{kd kw:Ko}
def InM(m3 D:Int):Prop:=∃y m k:Int,OkD y m k/\abY y m k=D/\tb m3 m.toNat=true
def agR(m3:Int)(kd kw:Ko)(D:Int):Prop:=∃y m k:Int,OkD y m k/\abY y m k=D/\tb m3 m.toNat=true/\tb (aaO kd kw (aaF y m) ((D-k+1+6)%7)) k.toNat=true
inductive Wc (m0 m1 m3:Int) (kd kw:Ko) (t:Int):List Nat->Prop
 |mon (h:¬InM m3 (t / 1440)):Wc m0 m1 m3 kd kw t [109,111,110,116,104]
 |day (h:InM m3 (t / 1440)) (n:¬agR m3 kd kw (t / 1440)):Wc m0 m1 m3 kd kw t [100,97,121]
 |hou (h:agR m3 kd kw (t / 1440)) (b:tb m1 (t%1440 / 60).toNat=false):Wc m0 m1 m3 kd kw t [104,111,117,114]
 |min (h:agR m3 kd kw (t / 1440)) (b:tb m1 (t%1440 / 60).toNat=true) (c:tb m0 (t%1440%60).toNat=false):Wc m0 m1 m3 kd kw t [109,105,110,117,116,101]
theorem akA{t:Int}{w:List Nat}(d:az9 t)(h:ae5 m0 m1 m3 kd kw t (.str (Tx w))):Wc m0 m1 m3 kd kw t w:=by
 obtain⟨y,m,k,ok,e⟩:=d;have z:=h y m k ok e;have one:∀{y' m' k':Int},OkD y' m' k'->abY y' m' k'=t / 1440->y'=y/\m'=m/\k'=k:=λa b=>af6 a ok (b.trans e.symm);by_cases c1:tb m3 m.toNat=false
 ·rw[sh1 c1] at z;rw[←aa1 z];refine .mon λ⟨y',m',k',a,b,c⟩=>?_;obtain⟨rfl,rfl,rfl⟩:=one a b;rw[c1] at c;cases c
 have c1:=abT c1;by_cases c2:tb (aaO kd kw (aaF y m) ((t / 1440-k+1+6)%7)) k.toNat=false
 ·rw[sh2 c1 c2] at z;rw[←aa1 z];refine .day ⟨y,m,k,ok,e,c1⟩ λ⟨y',m',k',a,b,_,c⟩=>?_;obtain⟨rfl,rfl,rfl⟩:=one a b;rw[c2] at c;cases c
 have c2:=abT c2;have od:agR m3 kd kw (t / 1440):=⟨y,m,k,ok,e,c1,c2⟩;by_cases c3:tb m1 (t%1440 / 60).toNat=false
 ·rw[sh3 c1 c2 c3] at z;rw[←aa1 z];exact .hou od c3
 have c3:=abT c3;by_cases c4:tb m0 (t%1440%60).toNat=false
 ·rw[sh4 c1 c2 c3 c4] at z;rw[←aa1 z];exact .min od c3 c4
 rw[sh5 c1 c2 c3 (abT c4)] at z;cases z
theorem aBP{t:Int}(hn:0<=m0/\0<=m1/\0<=m3)(hb:m1<2^24/\m0<2^60)(hg:GOk (aaP (tmF m1 m0) m3 kd kw))(d:agR m3 kd kw (t / 1440))(a:tb m1 (t%1440 / 60).toNat=true)(b:tb m0 (t%1440%60).toNat=true):EvG (aaP (tmF m1 m0) m3 kd kw) t:=by
 obtain⟨y,m,k,ok,e,c1,c2⟩:=d;exact aG6 hn hb hg ok e (sh5 c1 c2 a b)
theorem aDD{t:Int}(hn:0<=m0/\0<=m1/\0<=m3)(hb:m1<2^24/\m0<2^60)(hg:GOk (aaP (tmF m1 m0) m3 kd kw))(h:EvG (aaP (tmF m1 m0) m3 kd kw) t):agR m3 kd kw (t / 1440)/\tb m1 (t%1440 / 60).toNat=true/\tb m0 (t%1440%60).toNat=true:=by
 obtain⟨y,m,k,ok,e⟩:=aQ1 h;have z:=aG9 hn hb hg h y m k ok e;by_cases c1:tb m3 m.toNat=false
 ·rw[sh1 c1] at z;cases z
 have c1:=abT c1;by_cases c2:tb (aaO kd kw (aaF y m) ((t / 1440-k+1+6)%7)) k.toNat=false
 ·rw[sh2 c1 c2] at z;cases z
 have c2:=abT c2;by_cases c3:tb m1 (t%1440 / 60).toNat=false
 ·rw[sh3 c1 c2 c3] at z;cases z
 have c3:=abT c3;by_cases c4:tb m0 (t%1440%60).toNat=false
 ·rw[sh4 c1 c2 c3 c4] at z;cases z
 exact⟨⟨y,m,k,ok,e,c1,c2⟩,c3,abT c4⟩
theorem ay0{D:Int}(h:∃y m k:Int,OkD y m k/\abY y m k=D)(hc:¬(InM m3 (D-1)↔InM m3 D)):∃y m:Int,(1<=m/\m<=12)/\1440*D=SM (12*y+m-1):=by
 obtain⟨y,m,k,ok,e⟩:=h;by_cases c:k=1
 ·subst c;refine⟨y,m,ok.1,?_⟩;unfold SM aaV;rw[show (12*y+m-1) / 12=y by have:=ok.1;omega,show (12*y+m-1)%12+1=m by have:=ok.1;omega,←e];unfold abY;omega
 ·have ok':OkD y m (k-1):=⟨ok.1,by have:=ok.2.1;omega,by have:=ok.2.2;omega⟩;have e':abY y m (k-1)=D-1:=by
   rw[←e];unfold abY;omega
  refine absurd ⟨λ⟨y',m',k',a,b,z⟩=>?_,λ⟨y',m',k',a,b,z⟩=>?_⟩ hc
  ·obtain⟨rfl,rfl,rfl⟩:=af6 a ok' (b.trans e'.symm);exact⟨y',m',k,ok,e,z⟩
  ·obtain⟨rfl,rfl,rfl⟩:=af6 a ok (b.trans e.symm);exact⟨y',m',k'-1,ok',e',z⟩
structure Hit(m0 m1 m3:Int)(kd kw:Ko)(h:Int):Prop where
 hn:0<=m0/\0<=m1/\0<=m3
 hb:m1<2^24/\m0<2^60
 hg:GOk (aaP (tmF m1 m0) m3 kd kw)
 od:∀ks,kd=some ks->∀k∈ks,k.ok
 ow:∀ks,kw=some ks->∀k∈ks,k.ok
 ev:EvG (aaP (tmF m1 m0) m3 kd kw) h
theorem Hit.is{h:Int}(H:Hit m0 m1 m3 kd kw h):agR m3 kd kw (h / 1440)/\tb m1 (h%1440 / 60).toNat=true/\tb m0 (h%1440%60).toNat=true:=aDD H.hn H.hb H.hg H.ev
theorem Hit.day{t0 e h D:Int}(H:Hit m0 m1 m3 kd kw h)(no:∀t,t0<=t->t<e->¬EvG (aaP (tmF m1 m0) m3 kd kw) t)(d0:t0<=1440*D)(d1:1440*D+1439<e):¬agR m3 kd kw D:=λhd=>by
 obtain⟨r,hr,r0,r1⟩:∃r,h%1440=r/\0<=r/\r<1440:=⟨(),⋯,⋯⟩;obtain⟨_,h1,h2⟩:=H.is;rw[hr] at h1 h2;have e1:(1440*D+r) / 1440=D/\(1440*D+r)%1440=r:=⋯;refine no (1440*D+r) ⋯ ⋯ (aBP H.hn H.hb H.hg ?_ ?_ ?_)
 ·rw[e1.1];exact hd
 ·rw[e1.2];exact h1
 ·rw[e1.2];exact h2
theorem axS{q p r:Int}(p0:0<=p)(p1:p<24)(r0:0<=r)(r1:r<60):(60*(24*q+p)+r) / 1440=q/\(60*(24*q+p)+r)%1440=60*p+r:=⋯
theorem ayE{p r:Int}(r0:0<=r)(r1:r<60):(60*p+r) / 60=p/\(60*p+r)%60=r:=⋯
theorem Hit.hour{t0 e h X:Int}(H:Hit m0 m1 m3 kd kw h)(no:∀t,t0<=t->t<e->¬EvG (aaP (tmF m1 m0) m3 kd kw) t)(d0:t0<=60*X)(d1:60*X+59<e)(hd:agR m3 kd kw (60*X / 1440))(hm:tb m1 (60*X%1440 / 60).toNat=true):False:=by
 obtain⟨r,hr,r0,r1⟩:∃r,h%1440%60=r/\0<=r/\r<60:=⟨(),⋯,⋯⟩;obtain⟨_,_,h2⟩:=H.is;rw[hr] at h2;obtain⟨q,p,rfl,p0,p1⟩:∃q p,X=24*q+p/\0<=p/\p<24:=⟨X / 24,X%24,⋯,⋯,⋯⟩;have e0:=axS (q:=q) p0 p1 (aS 0) (show (0:Int)<60 by decide);have e1:=axS (q:=q) p0 p1 r0 r1;have i0:=ayE (p:=p) (aS 0) (show (0:Int)<60 by decide);have i1:=ayE (p:=p) r0 r1;rw[Int.add_zero] at e0 i0;rw[e0.1] at hd;rw[e0.2,Int.add_zero,i0.1] at hm
 refine no (60*(24*q+p)+r) ⋯ ⋯ (aBP H.hn H.hb H.hg ?_ ?_ ?_)
 ·rw[e1.1];exact hd
 ·rw[e1.2,i1.1];exact hm
 ·rw[e1.2,i1.2];exact h2
theorem aAD{x:Int}(c:¬x%60=0):(x-1)%1440 / 60=x%1440 / 60:=⋯
theorem azJ{x:Int}{v v':List Nat}(ed:(x-1) / 1440=x / 1440)(a:Wc m0 m1 m3 kd kw (x-1) v)(b:Wc m0 m1 m3 kd kw x v')(ne:v≠v'):agR m3 kd kw (x / 1440)/\((tb m1 ((x-1)%1440 / 60).toNat=true/\tb m1 (x%1440 / 60).toNat=false)∨(tb m1 ((x-1)%1440 / 60).toNat=false/\tb m1 (x%1440 / 60).toNat=true)):=by
 cases a with
 |mon a1=>
  rw[ed] at a1;cases b with
  |mon b1=>exact absurd rfl ne
  |day b1 _=>exact absurd b1 a1
  |hou b1 _=>obtain⟨y,m,k,o,e,z,_⟩:=b1;exact absurd ⟨y,m,k,o,e,z⟩ a1
  |min b1 _ _=>obtain⟨y,m,k,o,e,z,_⟩:=b1;exact absurd ⟨y,m,k,o,e,z⟩ a1
 |day a1 a2=>
  rw[ed] at a1 a2;cases b with
  |mon b1=>exact absurd a1 b1
  |day b1 _=>exact absurd rfl ne
  |hou b1 _=>exact absurd b1 a2
  |min b1 _ _=>exact absurd b1 a2
 |hou a1 a2=>
  rw[ed] at a1;cases b with
  |mon b1=>obtain⟨y,m,k,o,e,z,_⟩:=a1;exact absurd ⟨y,m,k,o,e,z⟩ b1
  |day b1 b2=>exact absurd a1 b2
  |hou b1 _=>exact absurd rfl ne
  |min b1 b2 _=>exact⟨b1,.inr ⟨a2,b2⟩⟩
 |min a1 a2 _=>
  rw[ed] at a1;cases b with
  |mon b1=>obtain⟨y,m,k,o,e,z,_⟩:=a1;exact absurd ⟨y,m,k,o,e,z⟩ b1
  |day b1 b2=>exact absurd a1 b2
  |hou b1 b2=>exact⟨b1,.inl ⟨a2,b2⟩⟩
  |min b1 _ _=>exact absurd rfl ne
theorem edge{t0 e x:Int}{w w':List Nat}{h:Int}(H:Hit m0 m1 m3 kd kw h)(no:∀t,t0<=t->t<e->¬EvG (aaP (tmF m1 m0) m3 kd kw) t)(h0:t0<x)(h1:x<e)(ne:w≠w')(dx:az9 x)(a:Wc m0 m1 m3 kd kw (x-1) w)(b:Wc m0 m1 m3 kd kw x w'):
  x∈[1440*(t0 / 1440+1),1440*(e / 1440),60*(t0 / 60+1),60*(e / 60)]∨((∃y m:Int,(1<=m/\m<=12)/\x=SM (12*y+m-1))/\¬(InM m3 (x / 1440-1)↔InM m3 (x / 1440))):=by
 by_cases cd:x%1440=0
 ·by_cases c1:x / 1440-1=t0 / 1440
  ·refine .inl ?_;rw[show x=1440*(t0 / 1440+1) by omega];exact bE
  by_cases c2:x / 1440=e / 1440
  ·refine .inl ?_;rw[←c2,show 1440*(x / 1440)=x by omega];exact bF _ bE
  have n1:=H.day (D:=x / 1440-1) no ⋯ ⋯;have n2:=H.day (D:=x / 1440) no ⋯ ⋯;have ed:(x-1) / 1440=x / 1440-1:=⋯;have hc:¬(InM m3 (x / 1440-1)↔InM m3 (x / 1440)):=by
   rw[←ed] at n1 ⊢;cases a with
   |mon a1=>cases b with
    |mon b1=>exact absurd rfl ne
    |day b1 _=>exact λz=>a1 (z.mpr b1)
    |hou b1 _=>exact absurd b1 n2
    |min b1 _ _=>exact absurd b1 n2
   |day a1 _=>cases b with
    |mon b1=>exact λz=>b1 (z.mp a1)
    |day b1 _=>exact absurd rfl ne
    |hou b1 _=>exact absurd b1 n2
    |min b1 _ _=>exact absurd b1 n2
   |hou a1 _=>exact absurd a1 n1
   |min a1 _ _=>exact absurd a1 n1
  obtain⟨y,m,hm,hs⟩:=ay0 dx hc;exact .inr ⟨⟨y,m,hm,by rw[←hs];omega⟩,hc⟩
 ·have ed:(x-1) / 1440=x / 1440:=⋯;obtain⟨hd,hor⟩:=azJ ed a b ne;have x60:x%60=0:=by
   by_cases c:x%60=0
   ·exact c
   ·have ee:=aAD c;rw[ee] at hor;rcases hor with ⟨p,q⟩ | ⟨p,q⟩
    ·rw[p] at q;cases q
    ·rw[p] at q;cases q
  rcases hor with ⟨p,q⟩ | ⟨p,q⟩
  ·by_cases c:t0 / 60=x / 60-1
   ·refine .inl ?_;rw[show x=60*(t0 / 60+1) by omega];exact bF _ (bF _ bE)
   ·refine (H.hour (X:=x / 60-1) no ⋯ ⋯ ?_ ?_).elim
    ·rw[show 60*(x / 60-1) / 1440=x / 1440 by omega];exact hd
    ·rw[show 60*(x / 60-1)%1440 / 60=(x-1)%1440 / 60 by omega];exact p
  ·by_cases c:e / 60=x / 60
   ·refine .inl ?_;rw[c,show 60*(x / 60)=x by omega];exact bF _ (bF _ (bF _ bE))
   ·refine (H.hour (X:=x / 60) no ⋯ ⋯ ?_ ?_).elim
    ·rw[show 60*(x / 60) / 1440=x / 1440 by omega];exact hd
    ·rw[show 60*(x / 60)%1440 / 60=x%1440 / 60 by omega];exact q
end
noncomputable def ends(m:Int):List Int:=if m=2 then [28,29] else [[31,28,31,30,31,30,31,31,30,31,30,31].getD (m-1).toNat 0]
def Nvl(ns:List Int)(kd kw:Ko):Prop:=∀m∈ns,∀l∈ends m,∀f:Nat,f<7->∀d:Nat,d<l.toNat->tb (aaO kd kw l f) (d+1)=false
theorem aF0:∀n:Nat,n<12->∀l∈ends ((n:Int)+1),l∈ls4:=by decide +kernel
theorem aE1{m l:Int}(h1:1<=m)(h2:m<=12)(hl:l∈ends m):28<=l/\l<=31:=by
 have z:=aF0 (m-1).toNat ⋯ l (by rw[show (((m-1).toNat:Nat):Int)+1=m by omega];exact hl);simp only[ls4,aX,cF,or_false] at z;omega
noncomputable def aDE(m l f:Int):Int:=if m=2/\l=29 then 84+f else 7*(m-1)+f
theorem aAH:∀n:Nat,n<12->∀l∈ends ((n:Int)+1),∀f:Nat,f<7->(0<=aDE ((n:Int)+1) l f/\aDE ((n:Int)+1) l f<=90)/\mnA (aDE ((n:Int)+1) l f)=(n:Int)+1/\lnA (aDE ((n:Int)+1) l f)=l/\aDE ((n:Int)+1) l f%7=f:=by decide +kernel
theorem aDF:∀l∈ls4,tb (2*2^l.toNat-2) 0=false:=by decide +kernel
theorem aR6{k:Mk}{l f:Int}(hk:k.ok)(h:Lf l f):tb (k.due l f) 0=false:=by
 have hl:=h.1;have pw:∀{a:Nat},0<a->tb (1*2^a) 0=false:=λ{a} ha=>by
  obtain⟨b,rfl⟩:∃b,a=b+1:=⟨a-1,⋯⟩;have e:=alW (m:=1) (by decide) (b+1) 0;rw[e,fC ⋯,cZ]
 cases k with
 |num m=>
  show tb (Builtin.bitAnd m (2*2^l.toNat-2)) 0=false;rw[adQ hk (by have:=aaN l.toNat;omega),aDF l (adG hl.1 hl.2),cM]
 |lst b=>
  show tb (if l<=b then (0:Int) else 1*2^(l-b).toNat) 0=false;split
  ·exact aaQ _
  ·exact pw ⋯
 |nea d=>
  show tb (if l<d then (0:Int) else 1*2^(nw d l f).toNat) 0=false;split
  ·exact aaQ _
  ·exact pw (by have:=(alM ⟨hk,hl,h.2⟩ ⋯).2.1;omega)
 |wrk=>exact pw (by have:=(alM h.last (aS _)).2.1;omega)
 |wkd m=>show tb (wkD m l f) 0=false;rw[apR hk.1 hk.2 h];rfl
 |nth w m=>
  show tb (if l<acN w m f then (0:Int) else 1*2^(acN w m f).toNat) 0=false;split
  ·exact aaQ _
  ·refine pw ?_;have:=hk.2.1;unfold acN;have:=cG (w-f) (show (7:Int)≠0 by decide);omega
 |one w=>
  refine pw ?_;unfold ad9;have:=dF ((f+l-1)%7-w) (show (0:Int)<7 by decide);omega
 |nil=>exact aaQ _
theorem aD7{kd kw:Ko}{l f:Int}(hl:Lf l f)(od:∀ks,kd=some ks->∀k∈ks,k.ok)(ow:∀ks,kw=some ks->∀k∈ks,k.ok):tb (aaO kd kw l f) 0=false:=by
 have no:∀{ko:Ko},(∀ks,ko=some ks->∀k∈ks,k.ok)->orP ko l f 0=false:=λ{ko} o=>by
  cases ko with
  |none=>rfl
  |some ks=>exact dC.mpr λk hk=>by rw[aR6 (o ks rfl k hk) hl];decide
 unfold aaO;split
 ·exact aDF l (adG hl.1.1 hl.1.2)
 ·rw[aiZ hl ow (afV (b:=false) hl od (aS 0)),aiZ hl od (aS 0),aaQ,no od,no ow];rfl
theorem axE:∀k:Nat,k<91->Lf (lnA (k:Int)) ((k:Int)%7):=by
 intro k hk;have z:=adJ (k:=(k:Int)) ⋯ ⋯;exact⟨z.2.1,⋯,⋯⟩
theorem aJE{m3 k:Int}{kd kw:Ko}(hne:dIn m3 kd kw k≠0):dIn m3 kd kw k=aaO kd kw (lnA k) (k%7):=by
 unfold dIn at hne ⊢;split
 ·rfl
 ·rename_i c;rw[if_neg c] at hne;exact absurd rfl hne
theorem arB{tm m3 M:Int}{kd kw:Ko}(hg:GOk (aaP tm m3 kd kw)){r:Nat}(hr:r<1440)(ht:tb tm r=true)(hne:dIn m3 kd kw (aa5 M)≠0)(od:∀ks,kd=some ks->∀k∈ks,k.ok)(ow:∀ks,kw=some ks->∀k∈ks,k.ok):∃t,SM M<=t/\t<SM (M+1)/\EvG (aaP tm m3 kd kw) t:=by
 have kl:=afU M;have lf:=axE (aa5 M).toNat ⋯;rw[bK kl.1] at lf;have eD:=(aJE hne);obtain⟨i,hi⟩:∃i,tb (dIn m3 kd kw (aa5 M)) i=true:=Classical.byContradiction λn=>hne (abR (by rw[eD];exact ahP lf od ow) (aS 0) λi=>by
  rw[aaQ];cases c:tb (dIn m3 kd kw (aa5 M)) i
  ·rfl
  ·exact absurd ⟨i,c⟩ n)
 have i0:1<=i:=by
  rcases Nat.eq_zero_or_pos i with rfl | w
  ·rw[eD,aD7 lf od ow] at hi;cases hi
  ·exact w
 have i1:i<=(lnA (aa5 M)).toNat:=by
  rcases cL (lnA (aa5 M)).toNat i with w | w
  ·rw[eD,adI (as6 lf od ow) w] at hi;cases hi
  ·exact w
 have el:=ayB M;have up:=abH M;have b1:SM M+(1440*((i-1:Nat):Int)+(r:Int))<SM (M+1):=by
  unfold SM;omega
 refine⟨SM M+(1440*((i-1:Nat):Int)+(r:Int)),⋯,b1,M,⋯,b1,?_⟩;unfold WM;rw[axX hg,show (SM M+(1440*((i-1:Nat):Int)+(r:Int))-SM M).toNat=1440*(i-1)+r by omega,show (1440*(i-1)+r) / 1440=i-1 by omega,show (1440*(i-1)+r)%1440=r by omega,eZ ⋯,cY];unfold aaP;rw[show i-1+1=i by omega,if_pos hi];exact ht
theorem aAM{ns:List Int}{kd kw:Ko}(hns:∀n∈ns,1<=n/\n<=12)(h:∀M,dIn (aaG ns) kd kw (aa5 M)=0):Nvl ns kd kw:=λm hmn l hl f hf d hd=>by
 have b:=hns m hmn;obtain⟨k0,k1,k2,k3⟩:=aAH (m-1).toNat ⋯ l (by rw[show (((m-1).toNat:Nat):Int)+1=m by omega];exact hl) f hf;rw[show (((m-1).toNat:Nat):Int)+1=m by omega] at k0 k1 k2 k3;obtain⟨N,_,_,eN⟩:=axQ k0.1 k0.2 0;have z:=h N;rw[eN] at z;unfold dIn at z;rw[k1,k2,k3,if_pos (by rw[abA];exact cN.mpr ⟨m,hmn,eZ rfl⟩)] at z;rw[z];exact aaQ _
theorem aCD:∀n:Nat,∃M,aaV M<=aaV 0+n/\aaV 0+n<aaV (M+1)
 |0=>⟨0,⋯,by have:=abH 0;have:=ab9 0;omega⟩
 |n+1=>by
  obtain⟨M,h1,h2⟩:=aCD n;rcases b9 (aaV 0+(n+1:Nat)) (aaV (M+1)) with c | c
  ·exact⟨M,⋯,c⟩
  ·exact⟨M+1,c,by have:=abH (M+1);have:=ab9 (M+1);omega⟩
theorem auS:∀n:Nat,∃M,aaV M<=aaV 0-n/\aaV 0-n<aaV (M+1)
 |0=>⟨0,⋯,by have:=abH 0;have:=ab9 0;omega⟩
 |n+1=>by
  obtain⟨M,h1,h2⟩:=auS n;rcases b9 (aaV 0-(n+1:Nat)) (aaV M) with c | c
  ·refine⟨M-1,?_,by rw[show M-1+1=M by omega];exact c⟩;have:=abH (M-1);have:=ab9 (M-1);rw[show M-1+1=M by omega] at *;omega
  ·exact⟨M,c,⋯⟩
theorem aCA(D:Int):∃M,aaV M<=D/\D<aaV (M+1):=by
 rcases b9 D (aaV 0) with c | c
 ·obtain⟨M,h⟩:=auS (aaV 0-D).toNat;rw[show aaV 0-((aaV 0-D).toNat:Int)=D by omega] at h;exact⟨M,h⟩
 ·obtain⟨M,h⟩:=aCD (D-aaV 0).toNat;rw[show aaV 0+((D-aaV 0).toNat:Int)=D by omega] at h;exact⟨M,h⟩
theorem aw3{M D:Int}(h1:aaV M<=D)(h2:D<aaV (M+1)):OkD (M / 12) (M%12+1) (D-aaV M+1)/\abY (M / 12) (M%12+1) (D-aaV M+1)=D:=by
 have up:=abH M;refine⟨⟨⟨⋯,⋯⟩,⋯,?_⟩,?_⟩
 ·show D-aaV M+1<=af8 M;omega
 ·show db (M / 12)+ahead (M / 12) (M%12+1)+(D-aaV M+1)-1=D;have:aaV M=db (M / 12)+ahead (M / 12) (M%12+1):=rfl;omega
theorem aeH(t:Int):az9 t:=by
 obtain⟨M,h1,h2⟩:=aCA (t / 1440);exact⟨_,_,_,aw3 h1 h2⟩
theorem aB4(t:Int):∃M,SM M<=t/\t<SM (M+1):=by
 obtain⟨M,h1,h2⟩:=aCA (t / 1440);unfold SM;exact⟨M,⋯,⋯⟩
theorem aqK{m3 M D:Int}(h1:aaV M<=D)(h2:D<aaV (M+1)):InM m3 D↔tb m3 (M%12+1).toNat=true:=by
 obtain⟨o,e⟩:=aw3 h1 h2;constructor
 ·rintro⟨y,m,k,o',e',z⟩;obtain⟨_,rfl,_⟩:=af6 o' o (e'.trans e.symm);exact z
 ·exact λz=>⟨_,_,_,o,e,z⟩
noncomputable def yrC(M:Int):Int:=366*(M / 12)+[0,31,60,91,121,152,182,213,244,274,305,335].getD (M%12).toNat 0
theorem aKM:∀n:Nat,n<12->(if n=1 then 29 else lasts.getD n 0)=(if n=11 then 366 else [0,31,60,91,121,152,182,213,244,274,305,335].getD (n+1) 0) - [0,31,60,91,121,152,182,213,244,274,305,335].getD n 0:=by decide +kernel
theorem aIR(M:Int):af8 M<=yrC (M+1)-yrC M:=by
 have z:=aKM (M%12).toNat ⋯;have l:af8 M<=(if (M%12).toNat=1 then 29 else lasts.getD (M%12).toNat 0):=by
  unfold af8 aaF;by_cases c:M%12=1
  ·rw[if_pos ⋯,if_pos ⋯];have:=afF (M / 12);omega
  ·rw[if_neg ⋯,if_neg ⋯,show (M%12+1-1).toNat=(M%12).toNat by omega];exact aS _
 unfold yrC;by_cases c:M%12=11
 ·rw[if_pos (show (M%12).toNat=11 by omega)] at z;rw[show (M+1) / 12=M / 12+1 by omega,show ((M+1)%12).toNat=0 by omega];show _<=366*(M / 12+1)+0-_;omega
 ·rw[if_neg (show ¬(M%12).toNat=11 by omega)] at z;rw[show (M+1) / 12=M / 12 by omega,show ((M+1)%12).toNat=(M%12).toNat+1 by omega];omega
theorem ax6(M:Int):∀n:Nat,aaV (M+n)-aaV M<=yrC (M+n)-yrC M
 |0=>by rw[show M+((0:Nat):Int)=M by omega];omega
 |n+1=>by
  have h:=ax6 M n;have u:=abH (M+n);have l:=aIR (M+n);rw[show M+((n+1:Nat):Int)=M+n+1 by omega];omega
theorem aIE(M:Int):aaV (M+12)<=aaV M+366:=by
 have h:=ax6 M 12;have e:yrC (M+(12:Nat))=yrC M+366:=by
  unfold yrC;rw[show (M+((12:Nat):Int)) / 12=M / 12+1 by omega,show (M+((12:Nat):Int))%12=M%12 by omega];omega
 rw[e,show M+((12:Nat):Int)=M+12 by omega] at h;omega
noncomputable def l31(q:Nat):Bool:=Nat.beq q 0||Nat.beq q 2||Nat.beq q 4||Nat.beq q 6||Nat.beq q 7||Nat.beq q 9||Nat.beq q 11
noncomputable def prs:List (Nat×Nat):=[(0,1),(0,8),(1,2),(1,9),(2,3),(2,10),(3,4),(3,11),(4,5),(4,12),(5,6),(5,13),(6,0),(6,7),(7,2),(8,3),(9,4),(10,5),(11,6),(12,0),(13,1)]
theorem aJ3:∀r:Nat,r<400->(adX r,adX (r+1))∈prs:=by decide +kernel
noncomputable def win2(p:Nat×Nat)(q a:Nat):Bool:=(List.range 12).any λj=>l31 ((q+j)%12)&&(λx=>Nat.beq x ((a+0)%7)||(Nat.beq x ((a+1)%7)||Nat.beq x ((a+2)%7))) (ah9 (if (q+j) / 12=0 then p.1 else p.2) ((q+j)%12)%7)
theorem aBL:∀p∈prs,((List.range 12).all λq=>(List.range 7).all λa=>win2 p q a)=true:=by decide +kernel
theorem aEW:∀q:Nat,q<12->l31 q=true->q≠1/\lasts.getD q 0=31:=by decide +kernel
theorem aKP(M:Int){j:Nat}(hj:j<12):∃q i k:Nat,q=(M%12).toNat/\q<12/\(q+j) / 12=i/\(q+j)%12=k/\i<=1/\k<12/\(M+j) / 12=M / 12+(i:Int)/\(M+j)%12=(k:Int):=⟨_,_,(),⋯,rfl,rfl,⋯,⋯,⋯,⋯⟩
theorem aU8(M:Int){a:Int}(a0:0<=a)(a6:a<=6):∃j:Nat,j<12/\af8 (M+j)=31/\(aa5 (M+j)%7=a%7∨aa5 (M+j)%7=(a+1)%7∨aa5 (M+j)%7=(a+2)%7):=by
 obtain⟨n,rfl,hn⟩:=a7 a0 a6;have z:=anK (aBL _ (aJ3 (M / 12%400).toNat ⋯)) (show (M%12).toNat<12 by omega);obtain⟨j,hj,hx⟩:=aDW (anK z hn);obtain⟨q,i,k,eq,hq,ei,ek,hi,hk,e1,e2⟩:=aKP M hj;rw[←eq,ei,ek,bH] at hx;obtain⟨h1,hx⟩:=hx;obtain⟨l1,l2⟩:=aEW k hk h1;have ec:(if i=0 then adX (M / 12%400).toNat else adX ((M / 12%400).toNat+1))=adX ((M / 12%400).toNat+i):=by
  match i,hi with
  |0,_=>rfl
  |1,_=>rfl
 refine⟨j,hj,?_,?_⟩
 ·unfold af8 aaF;rw[e2,if_neg ⋯,show ((k:Int)+1-1).toNat=k by omega];exact l2
 ·unfold aa5;rw[e1,e2,ai3 _ ⋯ hk,←ec];exact ((cW _ _).mp hx).imp (λe=>by have:=wn (o:=0) (dM e);rw[this];rfl) (λe=>((cW _ _).mp e).imp (λe=>wn (o:=1) (dM e)) (λe=>wn (o:=2) (dM e)))
section
variable{m0 m1 m3:Int}{kd kw:Ko}
theorem Hit.kind{h:Int}(H:Hit m0 m1 m3 kd kw h):∃(y m:Int) (k:Nat),k<91/\(1<=m/\m<=12)/\tb m3 m.toNat=true/\(k:Int)=kindOf y m/\dIn m3 kd kw (k:Int)≠0:=by
 obtain⟨⟨y,m,k,ok,e,c1,c2⟩,_,_⟩:=H.is;have kl:=ahH (y:=y) ok.1.1 ok.1.2;refine⟨y,m,(kindOf y m).toNat,⋯,ok.1,c1,⋯,?_⟩;rw[bK kl.1];refine au4 ok.1.1 ok.1.2 c1 λz=>?_;rw[aiC ok e,] at z;rw[z,aaQ] at c2;cases c2
theorem Hit.time{h:Int}(H:Hit m0 m1 m3 kd kw h):tb (tmF m1 m0) (h%1440).toNat=true:=by
 obtain⟨_,a,b⟩:=H.is;exact awR H.hn.2.1 H.hb.1 H.hn.1 (by rw[show (h%1440).toNat / 60=(h%1440 / 60).toNat by omega];exact a) (by rw[show (h%1440).toNat%60=(h%1440%60).toNat by omega];exact b)
theorem Hit.mono{h M N:Int}(H:Hit m0 m1 m3 kd kw h)(l:SM M<SM N):M<N:=by
 rcases b9 M N with c | c
 ·exact c
 ·have:=(aiW H.hg).mono c;omega
theorem Hit.upto{h b mo Ma M:Int}(H:Hit m0 m1 m3 kd kw h)(no:∀t,b<=t->t<mo->¬EvG (aaP (tmF m1 m0) m3 kd kw) t)(a2:b<SM (Ma+1))(hM:Ma<M)(hd:dIn m3 kd kw (aa5 M)≠0):mo<SM (M+1):=by
 obtain⟨t,t1,t2,ht⟩:=arB H.hg (r:=(h%1440).toNat) ⋯ H.time hd H.od H.ow;have:=(aiW H.hg).mono (show Ma+1<=M by omega);rcases b9 t mo with c | c
 ·exact absurd ht (no t ⋯ c)
 ·omega
theorem ar6:∀{r:List TrX} {s:TrX} {b mo:Int},Cov m0 m1 m3 kd kw b (s::r) mo->(s::r).Pairwise (λp q=>p.1<q.1)/\∀s'∈r,∃w,w≠s'.2.2/\s.1<s'.1/\s'.1<mo/\Wc m0 m1 m3 kd kw (s'.1-1) w/\Wc m0 m1 m3 kd kw s'.1 s'.2.2
 |[],s,b,mo,_=>⟨List.pairwise_singleton _ _,λ_ h=>nomatch h⟩
 |s1::r,s,b,mo,⟨a1,a2,a3,a4,a5,a6,a7⟩=>by
  obtain⟨p1,p2⟩:=ar6 a7;obtain⟨b1,b2,b3,b4,b5,b6,b7⟩:=a7;have le:=aBA b7;have up:∀s'∈s1::r,s.1<s'.1:=λs' hs=>by
   rcases aX.mp hs with rfl | hs
   ·omega
   ·obtain⟨_,_,z,_⟩:=p2 s' hs;omega
  refine⟨dJ.mpr ⟨up,p1⟩,λs' hs=>?_⟩;rcases aX.mp hs with rfl | hs
  ·refine⟨s.2.2,λz=>a6 (by show some s'.2.2=some s.2.2;rw[z]),⋯,⋯,?_,akA (aeH _) (b3 _ (aS _) b2)⟩;rw[show s'.1-1=s.2.1 by omega];exact akA (aeH _) (a3 _ a2 (aS _))
  ·obtain⟨w,z1,z2,z3,z4⟩:=p2 s' hs;exact⟨w,z1,up s' (bF _ hs),z3,z4⟩
theorem aN3:∀r:Nat,r<12->((List.range 480).filter λj=>Nat.beq ((r+1+j)%12) 1||Nat.beq ((r+1+j)%12) 2).length<=80:=by decide +kernel
theorem aHY{M N:Int}(h:M<N){c:Nat}(q:N%12=c)(hc:c<12):((M%12).toNat+1+(N-M-1).toNat)%12=c:=⋯
theorem aFD{h b mo:Int}{sts:List TrX}(H:Hit m0 m1 m3 kd kw h)(no:∀t,b<=t->t<mo->¬EvG (aaP (tmF m1 m0) m3 kd kw) t)(cv:Cov m0 m1 m3 kd kw b sts mo):sts.length<=100:=by
 cases sts with
 |nil=>exact bM _
 |cons s r=>
  have hb0:s.1=b:=cv.1;obtain⟨pw,ed⟩:=ar6 cv;obtain⟨Ma,i1,i2⟩:=aB4 b;obtain⟨y,m,k,k91,hm,hm3,ek,hne⟩:=H.kind;have pr:(r.map (·.1)).Pairwise (·<·):=List.pairwise_map.mpr (dJ.mp pw).2;have fin:∀(N:Nat) (f:Nat->Bool),(∀M:Int,Ma<M->SM M<mo->¬(InM m3 (SM M / 1440-1)↔InM m3 (SM M / 1440))->∃j,j<N/\f j=true/\M=Ma+1+j)->((List.range N).filter f).length<=90->r.length<=99:=λN f hf hl=>by
   have z:=ayD (A:=[1440*(b / 1440+1),1440*(mo / 1440),60*(b / 60+1),60*(mo / 60)]++((List.range N).filter f).map λj:Nat=>SM (Ma+1+j)) pr (λx hx=>by
    obtain⟨s',hs,rfl⟩:=bD.mp hx;obtain⟨w,z1,z2,z3,z4,z5⟩:=ed s' hs;rcases edge H no ⋯ z3 z1 (aeH _) z4 z5 with q | ⟨⟨y',m',q1,q2⟩,q3⟩
    ·exact dZ _ q
    ·refine cD _ (bD.mpr ?_);rw[q2] at q3 z3 z2;obtain⟨j,j1,j2,j3⟩:=hf _ (H.mono ⋯) z3 q3;exact⟨j,List.mem_filter.mpr ⟨cT.mpr j1,j2⟩,by rw[q2,j3]⟩)
   rw[aR,aY,aR] at z;have e4:[1440*(b / 1440+1),1440*(mo / 1440),60*(b / 60+1),60*(mo / 60)].length=4:=rfl;omega
  show r.length+1<=100;by_cases c:∃mo':Int,1<=mo'/\mo'<=12/\mo'≠2/\tb m3 mo'.toNat=true
  ·obtain⟨mo',o1,o2,o3,o4⟩:=c;obtain⟨M,g1,g2,g3⟩:=avA H.od H.ow k91 hne o1 o2 o3 o4 Ma;have u:=H.upto no i2 g1 g3;have z:=fin 84 (λ_=>true) (λN n1 n2 _=>by
    have:=H.mono (show SM N<SM (M+1) by omega);exact⟨(N-Ma-1).toNat,⋯,rfl,⋯⟩) (bL (List.length_filter_le _ _) (by decide))
   omega
  ·obtain⟨M,g1,g2,g3⟩:=aFI k91 hne Ma;have u:=H.upto no i2 g1 g3;have nof:∀N:Int,tb m3 (N%12+1).toNat=true->N%12=1:=λN hN=>Classical.byContradiction λn=>c ⟨N%12+1,⋯,⋯,⋯,hN⟩;have z:=fin 480 (λj=>Nat.beq (((Ma%12).toNat+1+j)%12) 1||Nat.beq (((Ma%12).toNat+1+j)%12) 2) (λN n1 n2 n3=>by
    have:=H.mono (show SM N<SM (M+1) by omega);have up:=abH N;have l1:=ab9 N;have up':=abH (N-1);have l2:=ab9 (N-1);rw[show N-1+1=N by omega] at up';have e:SM N / 1440=aaV N:=by unfold SM;omega
    rw[e,aqK (M:=N-1) ⋯ (by rw[show N-1+1=N by omega];omega),aqK (M:=N) (aS _) ⋯] at n3;refine⟨(N-Ma-1).toNat,⋯,?_,⋯⟩;have hor:N%12=1∨N%12=2:=by
     rcases Classical.em (tb m3 (N%12+1).toNat=true) with q | q
     ·exact .inl (nof N q)
     ·rcases Classical.em (tb m3 ((N-1)%12+1).toNat=true) with q' | q'
      ·have:=nof _ q';exact .inr ⋯
      ·exact absurd ⟨λz=>absurd z q',λz=>absurd z q⟩ n3
    rw[cW];rcases hor with q | q
    ·exact .inl (by rw[aHY n1 (c:=1) q (by decide)];rfl)
    ·exact .inr (by rw[aHY n1 (c:=2) q (by decide)];rfl)) (bL (aN3 (Ma%12).toNat ⋯) (by decide))
   omega
theorem aH0{h s l:Int}{w:List Nat}(H:Hit m0 m1 m3 kd kw h)(hw:∀t,s<=t->t<=l->ae5 m0 m1 m3 kd kw t (.str (Tx w))):l-s<576000/\(w=[104,111,117,114]->l-s<1440)/\(w=[109,105,110,117,116,101]->l-s<60):=by
 have wc:∀t,s<=t->t<=l->Wc m0 m1 m3 kd kw t w:=λt a b=>akA (aeH t) (hw t a b);obtain⟨_,hh,hmi⟩:=H.is;have ho:w=[104,111,117,114]->l-s<1440:=λe=>Classical.byContradiction λc=>by
  have z:=wc (1440*((s+1439-h%1440) / 1440)+h%1440) ⋯ ⋯;rw[e] at z;cases z with
  |hou _ b=>
   rw[show (1440*((s+1439-h%1440) / 1440)+h%1440)%1440=h%1440 by omega,hh] at b;cases b
 have mi:w=[109,105,110,117,116,101]->l-s<60:=λe=>Classical.byContradiction λc=>by
  have z:=wc (60*((s+59-h%60) / 60)+h%60) ⋯ ⋯;rw[e] at z;cases z with
  |min _ _ b=>
   rw[show (60*((s+59-h%60) / 60)+h%60)%1440%60=h%1440%60 by omega,hmi] at b;cases b
 refine⟨?_,ho,mi⟩;rcases b9 (l-s) 576000 with c | c
 ·exact c
 exfalso;obtain⟨Ma,i1,i2⟩:=aB4 s;obtain⟨y,m,k,k91,hm,hm3,ek,hne⟩:=H.kind;have y1:=aIE (Ma+1);have u0:=abH Ma;have l0:=ab9 Ma;have s13:SM (Ma+13)<=l:=by
  unfold SM at i1 i2 ⊢;rw[show Ma+1+12=Ma+13 by omega] at y1;omega
 -- the months of the year behind lie within
 have mon:∀M:Int,Ma<M->M<=Ma+12->s<=SM M/\SM (M+1)<=l:=λM a b=>by
  have z1:=(aiW H.hg).mono (show Ma+1<=M by omega);have z2:=(aiW H.hg).mono (show M+1<=Ma+13 by omega);omega
 have div:∀M:Int,SM M / 1440=aaV M:=λM=>by unfold SM;omega
 have lt:∀M:Int,aaV M<aaV (M+1)/\SM M<SM (M+1):=λM=>by
  have:=abH M;have:=ab9 M;unfold SM;omega
 -- a month of the mask
 have hin:∃M,Ma<M/\M<=Ma+12/\InM m3 (aaV M):=by
  refine⟨Ma+1+(m-1-(Ma+1))%12,⋯,⋯,(aqK (aS _) (lt _).1).mpr ?_⟩;rw[show (Ma+1+(m-1-(Ma+1))%12)%12+1=m by omega];exact hm3
 obtain⟨M1,n1,n2,n3⟩:=hin;have q1:=mon M1 n1 n2;have z1:=wc (SM M1) q1.1 (by have:=(lt M1).2;omega);cases z1 with
 |mon z=>rw[div] at z;exact z n3
 |hou z b=>have:=ho rfl;omega
 |min z b _=>have:=mi rfl;omega
 |day z _=>
  have all:∀M:Int,Ma<M->M<=Ma+12->tb m3 (M%12+1).toNat=true:=λM a b=>by
   have q:=mon M a b;have z:=wc (SM M) q.1 (by have:=(lt M).2;omega);cases z with
   |day z _=>rw[div] at z;exact (aqK (aS _) (lt _).1).mp z
  have ml:=adJ (k:=(k:Int)) ⋯ ⋯;obtain⟨hb,hd⟩:=aBM hne;obtain⟨a,ha,f1,f2,f3⟩:=awW H.od H.ow ml.2 (l':=31) (by decide) ml.2.1.2 hd;obtain⟨j,j1,j2,j3⟩:=aU8 (Ma+1) ha.1 ha.2;have q:=mon (Ma+1+j) ⋯ ⋯;have hd2:dIn m3 kd kw (aa5 (Ma+1+j))≠0:=by
   unfold aa5;refine au4 ⋯ ⋯ (all _ ⋯ ⋯) ?_;show aaO kd kw (af8 (Ma+1+j)) (aa5 (Ma+1+j)%7)≠0;rw[j2];rcases j3 with e | e | e
   ·rw[e,Int.emod_eq_of_lt ha.1 ⋯];exact f1
   ·rw[e];exact f2
   ·rw[e];exact f3 rfl
  obtain⟨t,t1,t2,ht⟩:=arB H.hg (r:=(h%1440).toNat) ⋯ H.time hd2 H.od H.ow;have z:=wc t ⋯ ⋯;have od:=(aDD H.hn H.hb H.hg ht).1;cases z with
  |day _ n=>exact n od
end
noncomputable def ah7(m3:Int)(kd kw:Ko)(d y m k:Int):List Nat:=if tb m3 m.toNat=false then [109,111,110,116,104] else if tb (aaO kd kw (aaF y m) ((d-k+1+6)%7)) k.toNat=false then [100,97,121] else [116,111,108,100]
theorem awP{a b:List Nat}{A B:Prop}(h1:¬a=b->A)(h2:a=b->B):if (!decide (V.str (Tx a)=V.str (Tx b)))=true then A else B:=by
 by_cases c:a=b
 ·rw[eZ (by rw[c])];exact (aaU (h2 c):if (!true)=true then A else B)
 ·rw[fC (λz=>c (aa1 z))];exact (aa4 (h1 c):if (!false)=true then A else B)
theorem amT{y:Int}{b:Bool}(h:aa2 y=b):ab3 y=if b then 1 else 0:=by
 unfold ab3;rw[h]
theorem wd_g{m0 m1 m3 t:Int}{kd kw:Ko}{u w:List Nat}{v:V}(hd:DT false u kd)(hw:DT true w kw)(h:ae5 m0 m1 m3 (gO false kd) (gO true kw) t v):ae5 m0 m1 m3 kd kw t v:=λy m k ok e=>by
 have z:=h y m k ok e;unfold shK at z ⊢;rw[aw0 hd hw (asF ok)] at z;exact z
theorem aHN{m0 m1 m3:Int}{kd kw:Ko}{u w:List Nat}(hd:DT false u kd)(hw:DT true w kw):∀{sts:List TrX} {b mo:Int},Cov m0 m1 m3 (gO false kd) (gO true kw) b sts mo->Cov m0 m1 m3 kd kw b sts mo
 |[],_,_,h=>h
 |_::_,_,_,⟨a1,a2,a3,a4,a5,a6,a7⟩=>⟨a1,a2,λt x y=>wd_g hd hw (a3 t x y),a4,a5,a6,aHN hd hw a7⟩
theorem aCS{tm m3 t:Int}{u w:List Nat}{kd kw:Ko}(hd:DT false u kd)(hw:DT true w kw):EvG (aaP tm m3 (gO false kd) (gO true kw)) t↔EvG (aaP tm m3 kd kw) t:=by
 have e2:∀M:Int,aaP tm m3 (gO false kd) (gO true kw) (aa5 M)=aaP tm m3 kd kw (aa5 M):=λM=>funext λj=>by
  have kl:=afU M;have lf:=axE (aa5 M).toNat ⋯;rw[bK kl.1] at lf;unfold aaP dIn;rw[aw0 hd hw lf]
 have e3:∀M:Int,WM (aaP tm m3 (gO false kd) (gO true kw)) M=WM (aaP tm m3 kd kw) M:=λM=>by
  unfold WM wK acX;rw[e2]
 exact⟨λ⟨M,a1,a2,a3⟩=>⟨M,a1,a2,by rw[←e3];exact a3⟩,λ⟨M,a1,a2,a3⟩=>⟨M,a1,a2,by rw[e3];exact a3⟩⟩
theorem aw8{m0 m1 m3 t:Int}{kd kw:Ko}{w:List Nat}(h:Wc m0 m1 m3 kd kw t w):w=[109,111,110,116,104]∨w=[100,97,121]∨w=[104,111,117,114]∨w=[109,105,110,117,116,101]:=by
 cases h with
 |mon _=>exact .inl rfl
 |day _ _=>exact .inr (.inl rfl)
 |hou _ _=>exact .inr (.inr (.inl rfl))
 |min _ _ _=>exact .inr (.inr (.inr rfl))
theorem aCX{m0 m1 m3 b mo:Int}{kd kw:Ko}{sts:List TrX}(h:Cov m0 m1 m3 kd kw b sts mo):hdW sts≠some []:=by
 cases sts with
 |nil=>exact λz=>by cases z
 |cons s r=>
  intro z;have e:s.2.2=[]:=aZ z;have w:=aw8 (akA (aeH _) (h.2.2.1 _ (aS _) h.2.1));rw[e] at w;rcases w with w | w | w | w<;>cases w
theorem axU{m0 m1 m3 d r y m k:Int}{kd kw:Ko}:(ah7 m3 kd kw d y m k=[109,111,110,116,104]/\shK m0 m1 m3 kd kw d r y m k=.str (Tx [109,111,110,116,104]))∨(ah7 m3 kd kw d y m k=[100,97,121]/\shK m0 m1 m3 kd kw d r y m k=.str (Tx [100,97,121]))∨(ah7 m3 kd kw d y m k=[116,111,108,100]/\shK m0 m1 m3 kd kw d r y m k=if tb m1 (r / 60).toNat=false then .str (Tx [104,111,117,114]) else if tb m0 (r%60).toNat=false then .str (Tx [109,105,110,117,116,101]) else .non):=by
 unfold ah7 shK;split
 ·exact .inl ⟨rfl,rfl⟩
 split
 ·exact .inr (.inl ⟨rfl,rfl⟩)
 ·exact .inr (.inr ⟨rfl,rfl⟩)
theorem aJ4{f l:Int}{i:Nat}(h:f<=l)(hi:(i:Int)<l / 60+1-f / 60):f<=(if (f / 60+(i:Int))*60>f then (f / 60+(i:Int))*60 else f)/\(if (f / 60+(i:Int))*60>f then (f / 60+(i:Int))*60 else f)<=l/\(if (f / 60+(i:Int))*60>f then (f / 60+(i:Int))*60 else f) / 60=f / 60+(i:Int):=by split<;>omega
theorem aPJ{f l:Int}{i:Nat}(h:f<=l)(hi:(i:Int)<l / 1+1-f / 1):f<=(if (f / 1+(i:Int))*1>f then (f / 1+(i:Int))*1 else f)/\(if (f / 1+(i:Int))*1>f then (f / 1+(i:Int))*1 else f)<=l/\(if (f / 1+(i:Int))*1>f then (f / 1+(i:Int))*1 else f) / 1=f / 1+(i:Int):=by split<;>omega
theorem aJY{ns0 ns1 ns3:List Int}{kd kw:Ko}(h0:ns0≠[])(h1:ns1≠[])(b0:∀n∈ns0,0<=n/\n<=59)(b1:∀n∈ns1,0<=n/\n<=23)(b3:∀n∈ns3,1<=n/\n<=12)(hb:aaG ns1<2^24/\aaG ns0<2^60)(od:∀ks,kd=some ks->∀k∈ks,k.ok)(ow:∀ks,kw=some ks->∀k∈ks,k.ok)
  (no:∀t,¬EvG (aaP (tmF (aaG ns1) (aaG ns0)) (aaG ns3) kd kw) t):Nvl ns3 kd kw:=by
 refine aAM b3 λM=>Classical.byContradiction λhne=>?_;obtain⟨n0,r0,e0⟩:=List.exists_cons_of_ne_nil h0;obtain⟨n1,r1,e1⟩:=List.exists_cons_of_ne_nil h1;have i0:n0∈ns0:=by rw[e0];exact bE
 have i1:n1∈ns1:=by rw[e1];exact bE
 have l0:=b0 n0 i0;have l1:=b1 n1 i1;have tm:=awR (h:=aaG ns1) (m:=aaG ns0) (r:=60*n1.toNat+n0.toNat) (aa9 _) hb.1 (aa9 _) (by
  rw[show (60*n1.toNat+n0.toNat) / 60=n1.toNat by omega,abA];exact cN.mpr ⟨n1,i1,eZ rfl⟩) (by
  rw[show (60*n1.toNat+n0.toNat)%60=n0.toNat by omega,abA];exact cN.mpr ⟨n0,i0,eZ rfl⟩)
 obtain⟨t,_,_,ht⟩:=arB (av2 (aa9 _) hb.1 (aa9 _) hb.2) ⋯ tm hne od ow;exact no t ht
theorem MkD.keepN{H H':Hp}(s:SameN H H'){v:V}{k:Mk}(h:MkD H v k):MkD H' v k:=by
 obtain⟨u,x,y,tw,e,hu,h⟩:=h;refine⟨u,x,y,tw,e,s _ _ (λ_ z=>by cases z) hu,?_⟩;cases k with
 |num m=>obtain⟨e,a,ns,e2,ha,r⟩:=h;exact⟨e,a,ns,e2,s _ _ (λ_ z=>by cases z) ha,r⟩
 |wkd m=>obtain⟨e,a,ns,e2,ha,r⟩:=h;exact⟨e,a,ns,e2,s _ _ (λ_ z=>by cases z) ha,r⟩
 |_=>exact h
theorem MV.keepN{H H':Hp}(s:SameN H H'){v:V}{ko:Ko}(h:MV H v ko):MV H' v ko:=by
 rcases h with h | ⟨a,us,ks,e,e2,ha,hP,ok⟩
 ·exact .inl h
 ·exact .inr ⟨a,us,ks,e,e2,s _ _ (λ_ z=>by cases z) ha,Paired.mapP hP (λ_ _ z=>z.keepN s),ok⟩
theorem LS.keepN{H H':Hp}{s:Addr}{ns0 ns1 ns3:List Int}{kd kw:Ko}(e:SameN H H')(h:LS H s ns0 ns1 ns3 kd kw):LS H' s ns0 ns1 ns3 kd kw:=by
 obtain⟨x0,v3,v5,a0,a1,a3,h1,h2,h3,h4,h5,h6,h7⟩:=h;exact⟨x0,v3,v5,a0,a1,a3,e _ _ (λ_ z=>by cases z) h1,e _ _ (λ_ z=>by cases z) h2,e _ _ (λ_ z=>by cases z) h3,e _ _ (λ_ z=>by cases z) h4,h5.keepN e,h6.keepN e,h7⟩
def av5(K:FG):Sp:=λvs H Q _=>∃y:Int,vs=[.int y]/\Q (.bl (aa2 y)) H
def agJ(K:FG):Sp:=λvs H Q _=>∃y z:Int,vs=[.int y,.int z]/\(0<z/\z<1073741824)/\Q (.int (mb y z)) H
def amP(K:FG):Sp:=λvs H Q _=>∃y:Int,vs=[.int y]/\Q (.int (db y)) H
def av3(K:FG):Sp:=λvs H Q _=>∃y m:Int,vs=[.int y,.int m]/\(1<=m/\m<=12)/\Q (.int (aaF y m)) H
def asO(K:FG):Sp:=λvs H Q _=>∃i:Int,vs=[.int i]/\Q (.bl true) H
def avK(K:FG):Sp:=λvs H Q _=>∃y m k:Int,vs=[.int y,.int m,.int k]/\((1<=m/\m<=12)/\1<=k/\k<=aaF y m)/\Q (.bl true) H
def ay3(K:FG):Sp:=λvs H Q _=>∃y m k:Int,vs=[.int y,.int m,.int k]/\((1<=m/\m<=12)/\1<=k/\k<=aaF y m)/\∀H',Same H H'->Q (.int (db y+ahead y m+k-1)) H'
def awB(K:FG):Sp:=λvs H Q _=>∃d:Int,vs=[.int d]/\∀y:Int,db y<=d->d<db (y+1)->Q (.int y) H
def avB(K:FG):Sp:=λvs H Q _=>∃d:Int,vs=[.int d]/\∀(y m k:Int) (p:Addr) (H':Hp),OkD y m k->abY y m k=d->Same H H'->H' p=some (.tup [.int y,.int m,.int k])->Q (.ref p) H'
def avF(K:FG):Sp:=λvs H Q _=>∃d:Int,vs=[.int d]/\Q (.int ((d+6)%7)) H
def arL(K:FG):Sp:=λvs H Q _=>∃y m d:Int,vs=[.int y,.int m,.int d]/\Q (.int (7*plc y m+(d+6)%7)) H
def au6(K:FG):Sp:=λvs H Q _=>∃y m:Int,vs=[.int y,.int m]/\(1<=m/\m<=12)/\∀H':Hp,Same H H'->Q (.int (kindOf y m)) H'
def azK(K:FG):Sp:=λvs H Q _=>∃mo:Int,vs=[.int mo]/\∀(p:Addr) (H':Hp),Same H H'->H' p=some (.tup [.int (mo / 1440),.int (mo%1440 / 60),.int (mo%1440%60)])->Q (.ref p) H'
def am3(K:FG):Sp:=λvs H Q _=>∃l:List Nat,vs=[.str (Tx l)]/\l.length<=2000/\∀H',Same H H'->Q (.bl (aqY l)) H'
def anW(K:FG):Sp:=λvs H Q _=>∃l:List Nat,vs=[.str (Tx l)]/\l.length<=2000/\∀H',Same H H'->Q (.bl (isW l)) H'
def aKU(K:FG):Sp:=λvs H Q _=>∃m n:Int,vs=[.int m,.int n]/\(0<=m/\0<=n)/\Q (.bl (tb m n.toNat)) H
def avJ(K:FG):Sp:=λvs H Q _=>∃(a:Addr) (zs:List Int),vs=[.ref a]/\SqL K H a (zs.map V.int)/\(∀z∈zs,0<=z/\z<=100000)/\Q (.int (aaG zs)) H
def anX(K:FG):Sp:=λvs H Q _=>∃m:Int,vs=[.int m]/\(0<=m/\Builtin.Int.intBits m<=100000)/\∀(p:Addr) (H':Hp),Same H H'->H' p=some (.lst ((at3 m).map V.int))->Q (.ref p) H'
def atD(K:FG):Sp:=λvs H Q _=>∃a b s:Int,vs=[.int a,.int b,.int s]/\(0<=a/\a<=1000)/\(-1<=b/\b<=1000)/\(0<s/\s<=1000)/\∀H',Same H H'->Q (.int (alC a b s)) H'
def am0(K:FG):Sp:=λvs H Q _=>∃(l:List Nat) (lo hi:Int),vs=[.str (Tx l),.int lo,.int hi]/\l.length<=600/\∀H',Same H H'->Q (oV (aaW lo hi l)) H'
def as3(K:FG):Sp:=λvs H Q _=>∃(l:List Nat) (lo hi:Int),vs=[.str (Tx l),.int lo,.int hi]/\l.length<=500/\∀(r:V) (H':Hp),Same H H'->RunV H' r (aa0 lo hi l)->Q r H'
def ak1(K:FG):Sp:=λvs H Q _=>∃(r s:List Nat) (lo hi:Int),vs=[.str (Tx r),.str (Tx s),.int lo,.int hi]/\r.length<=400/\s.length<=400/\(0<=lo/\lo<=hi/\hi<=1000)/\∀H',Same H H'->Q (oV (abZ lo hi r s)) H'
def arS(K:FG):Sp:=λvs H Q _=>∃(l:List Nat) (lo hi:Int),vs=[.str (Tx l),.int lo,.int hi]/\l.length<=300/\(0<=lo/\lo<=hi/\hi<=1000)/\∀H',Same H H'->Q (oV (aaL lo hi l)) H'
def anQ(K:FG):Sp:=λvs H Q _=>∃(l:List Nat) (lo hi:Int),vs=[.str (Tx l),.int lo,.int hi]/\l.length<=300/\(0<=lo/\lo<=hi/\hi<=1000)/\aw4 lo hi l/\∀H',Same H H'->Q (.int (orM (ad8 lo hi l))) H'
def anY(K:FG):Sp:=λvs H Q _=>∃d f:Int,vs=[.int d,.int f]/\Q (.int ((f+d-1)%7)) H
def asG(K:FG):Sp:=λvs H Q _=>∃l:Int,vs=[.int l]/\(28<=l/\l<=31)/\Q (.int (2*2^l.toNat-2)) H
def ak0(K:FG):Sp:=λvs H Q _=>∃d l f:Int,vs=[.int d,.int l,.int f]/\Q (.int (nw d l f)) H
def aqM(K:FG):Sp:=λvs H Q _=>∃w f:Int,vs=[.int w,.int f]/\Q (.int (1+(w-f)%7)) H
def aqL(K:FG)(C:Addr):Sp:=λvs H Q _=>∃(p:Addr) (l f:Int),vs=[.ref p,.int l,.int f]/\Q (.int 0) H
def agF(K:FG)(C:Addr):Sp:=λvs H Q _=>∃(p dx:Addr) (m:Int),vs=[.ref p,.int m]/\H p=some (.ins C dx [])/\Q .non (upd H p (.ins C dx [("mask",.int m)]))
def alI(K:FG)(C:Addr):Sp:=λvs H Q _=>∃(p dx:Addr) (m l f:Int),vs=[.ref p,.int l,.int f]/\H p=some (.ins C dx [("mask",.int m)])/\Lf l f/\Q (.int (ahF m l)) H
def ajM(K:FG)(C:Addr):Sp:=λvs H Q _=>∃(p dx:Addr) (m:Int),vs=[.ref p,.int m]/\H p=some (.ins C dx [])/\Q .non (upd H p (.ins C dx [("back",.int m)]))
def aqO(K:FG)(C:Addr):Sp:=λvs H Q _=>∃(p dx:Addr) (b l f:Int),vs=[.ref p,.int l,.int f]/\H p=some (.ins C dx [("back",.int b)])/\(0<=b/\b<=30)/\Lf l f/\Q (.int (aq2 b l)) H
def aiQ(K:FG)(C:Addr):Sp:=λvs H Q _=>∃(p dx:Addr) (m:Int),vs=[.ref p,.int m]/\H p=some (.ins C dx [])/\Q .non (upd H p (.ins C dx [("day",.int m)]))
def arO(K:FG)(C:Addr):Sp:=λvs H Q _=>∃(p dx:Addr) (d l f:Int),vs=[.ref p,.int l,.int f]/\H p=some (.ins C dx [("day",.int d)])/\Ok3 d l f/\Q (.int (arF d l f)) H
def ajY(K:FG)(C:Addr):Sp:=λvs H Q _=>∃(p dx:Addr) (l f:Int),vs=[.ref p,.int l,.int f]/\H p=some (.ins C dx [])/\Ok3 l l f/\Q (.int (1*2^(nw l l f).toNat)) H
def afR(K:FG)(C:Addr):Sp:=λvs H Q _=>∃(p dx:Addr) (m:Int),vs=[.ref p,.int m]/\H p=some (.ins C dx [])/\Q .non (upd H p (.ins C dx [("mask",.int m)]))
def ajL(K:FG)(C:Addr):Sp:=λvs H Q _=>∃(p dx:Addr) (m l f:Int),vs=[.ref p,.int l,.int f]/\H p=some (.ins C dx [("mask",.int m)])/\(0<=m/\m<=127)/\Lf l f/\Q (.int (wkD m l f)) H
def ak9(K:FG)(C:Addr):Sp:=λvs H Q _=>∃(p dx:Addr) (w m:Int),vs=[.ref p,.int w,.int m]/\H p=some (.ins C dx [])/\Q .non (upd (upd H p (.ins C dx (aaT "weekday" (.int w) []))) p (.ins C dx (aqZ w m)))
def auP(K:FG)(C:Addr):Sp:=λvs H Q _=>∃(p dx:Addr) (w m l f:Int),vs=[.ref p,.int l,.int f]/\H p=some (.ins C dx (aqZ w m))/\(0<=w/\w<=6)/\(1<=m/\m<=5)/\Lf l f/\Q (.int (ahS w m l f)) H
def agK(K:FG)(C:Addr):Sp:=λvs H Q _=>∃(p dx:Addr) (m:Int),vs=[.ref p,.int m]/\H p=some (.ins C dx [])/\Q .non (upd H p (.ins C dx [("weekday",.int m)]))
def akY(K:FG)(C:Addr):Sp:=λvs H Q _=>∃(p dx:Addr) (w l f:Int),vs=[.ref p,.int l,.int f]/\H p=some (.ins C dx [("weekday",.int w)])/\(0<=w/\w<=6)/\Lf l f/\Q (.int (aAR w l f)) H
def atW(K:FG)(aB aE aF aH aD aA aG aI:Addr):Sp:=λvs H Q _=>∃(b:Addr) (ps:List Addr) (ks:List Mk) (l f:Int),vs=[.ref b,.int l,.int f]/\SqL K H b (ps.map V.ref)/\Ft (MkAt (⟨aB,aE,aF,aH,aD,aA,aG,aI⟩:Cs) H) ps ks/\(∀k∈ks,k.ok)/\Lf l f/\Q (.int (orK ks l f)) H
def aiY(K:FG)(aB aE aF aH aD aA aG aI:Addr):Sp:=λvs H Q _=>∃t:List Nat,vs=[.str (Tx t)]/\t.length<=300/\∀(v:V) (H':Hp),Same H H'->MkV (⟨aB,aE,aF,aH,aD,aA,aG,aI⟩:Cs) H' v (adW t)->Q v H'
def ak6(K:FG):Sp:=λvs H Q _=>∃t:List Nat,vs=[.str (Tx t)]/\t.length<=300/\∀H',Same H H'->Q (oV (wdN t)) H'
def afY(K:FG)(aB aE aF aH aD aA aG aI:Addr):Sp:=λvs H Q _=>∃t:List Nat,vs=[.str (Tx t)]/\t.length<=300/\∀(v:V) (H':Hp),Same H H'->MkV (⟨aB,aE,aF,aH,aD,aA,aG,aI⟩:Cs) H' v (aqU t)->Q v H'
def anL(K:FG)(aB aE aF aH aD aA aG aI aM aO:Addr):Sp:=λvs H Q _=>∃(l:List Nat) (lo hi:Int) (wk:Bool),vs=[.str (Tx l),.int lo,.int hi,.ref (if wk=true then aO else aM)]/\(0<=lo/\lo<=hi/\hi<=1000)/\ItemsOk wk lo hi l/\∀(p m:Addr) (qs:List Addr) (H':Hp),H m=none->Same H H'->H' p=some (.tup [.int (orM (plP lo hi (spl 44 l))),.ref m])->H' m=some (.lst (qs.map V.ref))->Ft (MkAt (⟨aB,aE,aF,aH,aD,aA,aG,aI⟩:Cs) H') qs (mkP wk lo hi (spl 44 l))->Q (.ref p) H'
def aqQ(K:FG)(aB aE aF aH aD aA aG aI:Addr):Sp:=λvs H Q _=>∃l:List Nat,vs=[.str (Tx l)]/\ItemsOk false 1 31 l/\(l=[42]->∀H',Same H H'->Q .non H')/\(l≠[42]->∀(m:Addr) (qs:List Addr) (H':Hp),H m=none->Same H H'->H' m=some (.lst (qs.map V.ref))->Ft (MkAt (⟨aB,aE,aF,aH,aD,aA,aG,aI⟩:Cs) H') qs (amR false 1 31 l)->Q (.ref m) H')
def ajB(K:FG)(aB aE aF aH aD aA aG aI:Addr):Sp:=λvs H Q _=>∃l:List Nat,vs=[.str (Tx l)]/\ItemsOk true 0 7 l/\(l=[42]->∀H',Same H H'->Q .non H')/\(l≠[42]->∀(m:Addr) (qs:List Addr) (H':Hp),H m=none->Same H H'->H' m=some (.lst (qs.map V.ref))->Ft (MkAt (⟨aB,aE,aF,aH,aD,aA,aG,aI⟩:Cs) H') qs (amR true 0 7 l)->Q (.ref m) H')
def atO(K:FG):Sp:=λvs H Q _=>∃k:Int,vs=[.int k]/\(0<=k/\k<=90)/\∀(p:Addr) (H':Hp),Same H H'->H' p=some (.tup ((anG k).map V.int))->Q (.ref p) H'
def asU(K:FG):Sp:=λvs H Q _=>∃h m:Int,vs=[.int h,.int m]/\(0<=h/\h<2^24)/\(0<=m/\m<2^60)/\∀(t:Int) (H':Hp),t=tmF h m->Same H H'->Q (.int t) H'
def av0(K:FG)(aB aE aF aH aD aA aG aI:Addr):Sp:=λvs H Q _=>∃(dv wv:V) (kd kw:Ko) (l f:Int),vs=[dv,wv,.int l,.int f]/\DV (⟨aB,aE,aF,aH,aD,aA,aG,aI⟩:Cs) H dv kd/\DV (⟨aB,aE,aF,aH,aD,aA,aG,aI⟩:Cs) H wv kw/\Lf l f/\∀H',Same H H'->Q (.int (aaO kd kw l f)) H'
def akV(K:FG)(C:Addr):Sp:=λvs H Q _=>∃(p dx fa:Addr) (m0 m1 m3:Int) (dv wv:V),vs=[.ref p,.ref fa]/\H p=some (.ins C dx [])/\H fa=some (.lst [.int m0,.int m1,dv,.int m3,wv])/\(0<=m0/\m0<2^60)/\(0<=m1/\m1<2^24)/\∀(tm:Int) (H':Hp),tm=tmF m1 m0->H' p=some (.ins C dx (acB m0 m1 dv m3 wv tm))->(∀b o,H b=some o->b≠p->H' b=some o)->Q .non H'
def alV(K:FG)(C:Addr)(aB aE aF aH aD aA aG aI:Addr):Sp:=λvs H Q _=>∃(p dx:Addr) (m0 m1 m3 tm k:Int) (dv wv:V) (kd kw:Ko),vs=[.ref p,.int k]/\H p=some (.ins C dx (acB m0 m1 dv m3 wv tm))/\(0<=k/\k<=90)/\0<=m3/\DV (⟨aB,aE,aF,aH,aD,aA,aG,aI⟩:Cs) H dv kd/\DV (⟨aB,aE,aF,aH,aD,aA,aG,aI⟩:Cs) H wv kw/\∀H',Same H H'->Q (.int (if tb m3 (mnA k).toNat=true then aaO kd kw (lnA k) (k%7) else 0)) H'
def ap0(K:FG)(aB aE aF aH aD aA aG aI:Addr):Sp:=λvs H Q _=>∃(t:List Nat) (pl:Int),vs=[.str (Tx t),.int pl]/\((pl=2/\∃ko,DT false t ko/\∀(v:V) (H':Hp),Same H H'->DV (⟨aB,aE,aF,aH,aD,aA,aG,aI⟩:Cs) H' v (gO false ko)->(∀p,v=.ref p->H p=none)->Q v H')∨(pl=4/\∃ko,DT true t ko/\∀(v:V) (H':Hp),Same H H'->DV (⟨aB,aE,aF,aH,aD,aA,aG,aI⟩:Cs) H' v (gO true ko)->(∀p,v=.ref p->H p=none)->Q v H')∨(∃lo hi m:Int,(pl=0/\lo=0/\hi=59∨pl=1/\lo=0/\hi=23∨pl=3/\lo=1/\hi=12)/\FT lo hi t m/\∀H',Same H H'->Q (.int m) H'))
def awO(K:FG)(aB aE aF aH aD aA aG aI:Addr):Sp:=λvs H Q _=>∃(t:List Nat) (pl:Int),vs=[.str (Tx t),.int pl]/\((pl=2/\∃ko,DT false t ko/\∀(v:V) (H':Hp),Same H H'->DV (⟨aB,aE,aF,aH,aD,aA,aG,aI⟩:Cs) H' v (gO false ko)->(∀p,v=.ref p->H p=none)->Q v H')∨(pl=4/\∃ko,DT true t ko/\∀(v:V) (H':Hp),Same H H'->DV (⟨aB,aE,aF,aH,aD,aA,aG,aI⟩:Cs) H' v (gO true ko)->(∀p,v=.ref p->H p=none)->Q v H')∨(∃lo hi m:Int,(pl=0/\lo=0/\hi=59∨pl=1/\lo=0/\hi=23∨pl=3/\lo=1/\hi=12)/\FT lo hi t m/\∀H',Same H H'->Q (.int m) H'))
def auL(K:FG)(aB aE aF aH aD aA aG aI aJ:Addr):Sp:=λvs H Q _=>∃(w0 w1 w2 w3 w4:List Nat) (m0 m1 m3:Int) (kd kw:Ko),vs=[.str (Tx (aaY 32 [w0,w1,w2,w3,w4]))]/\FT 0 59 w0 m0/\FT 0 23 w1 m1/\FT 1 12 w3 m3/\DT false w2 kd/\DT true w4 kw/\(m0<2^60/\m1<2^24)/\∀(x dx:Addr) (dv wv:V) (tm:Int) (H':Hp),tm=tmF m1 m0->Same H H'->H' x=some (.ins aJ dx (acB m0 m1 dv m3 wv tm))->DV (⟨aB,aE,aF,aH,aD,aA,aG,aI⟩:Cs) H' dv (gO false kd)->DV (⟨aB,aE,aF,aH,aD,aA,aG,aI⟩:Cs) H' wv (gO true kw)->Q (.ref x) H'
def anA(K:FG)(C:Addr)(aB aE aF aH aD aA aG aI:Addr):Sp:=λvs H Q _=>∃(p dx:Addr) (m0 m1 m3 tm mo:Int) (dv wv:V) (kd kw:Ko),vs=[.ref p,.int mo]/\H p=some (.ins C dx (acB m0 m1 dv m3 wv tm))/\(0<=m0/\0<=m1/\0<=m3)/\DV (⟨aB,aE,aF,aH,aD,aA,aG,aI⟩:Cs) H dv kd/\DV (⟨aB,aE,aF,aH,aD,aA,aG,aI⟩:Cs) H wv kw/\∀(y m k:Int) (H':Hp),OkD y m k->abY y m k=mo / 1440->Same H H'->Q (shK m0 m1 m3 kd kw (mo / 1440) (mo%1440) y m k) H'
def an9(K:FG):Sp:=λvs H Q _=>∃N:Int,vs=[.int (N / 12),.int (N%12+1)]/\∀(t:Addr) (H':Hp),Same H H'->H' t=some (.tup [.int ((N+1) / 12),.int ((N+1)%12+1)])->Q (.ref t) H'
def asH(K:FG):Sp:=λvs H Q _=>∃mo:Int,vs=[.int mo]/\∀(N:Int) (t:Addr) (H':Hp),Same H H'->1440*aaV N<=mo->mo<1440*aaV (N+1)->H' t=some (.tup [.int (N / 12),.int (N%12+1)])->Q (.ref t) H'
def anN(K:FG):Sp:=λvs H Q _=>∃(d:Addr) (ts:List Int),vs=[.ref d]/\SqL K H d (ts.map V.int)/\ts.length<=31/\(∀t∈ts,akK t)/\∀H',Same H H'->Q (.int (mnN (λj=>ts.getD j 0) ts.length)) H'
def azI(K:FG):Sp:=λvs H Q _=>∃(m:Int) (k:Nat),vs=[.int m]/\0<m/\tb m k=true/\(∀j,j<k->tb m j=false)/\Q (.int k) H
def aiS(K:FG)(aB aE aF aH aD aA aG aI aJ:Addr):Sp:=λvs H Q _=>∃(tw:List Nat) (p dx:Addr) (m0 m1 m3 tm d:Int) (dv wv:V) (kd kw:Ko),vs=[.ref p,.int d]/\H p=some (.ins aJ dx (acB m0 m1 dv m3 wv tm))/\(0<=m0/\0<=m1/\0<=m3)/\DV (⟨aB,aE,aF,aH,aD,aA,aG,aI⟩:Cs) H dv kd/\DV (⟨aB,aE,aF,aH,aD,aA,aG,aI⟩:Cs) H wv kw/\aC8 m3 kd kw d tw/\∀(r:Int) (H':Hp),d<=r->(∀d',d<=d'->d'<=r->aC8 m3 kd kw d' tw)->Same H H'->Q (.int r) H'
def as7(K:FG)(aB aE aF aH aD aA aG aI aJ:Addr):Sp:=λvs H Q _=>∃(p dx:Addr) (tw:List Nat) (m0 m1 m3 tm d:Int) (dv wv:V) (kd kw:Ko),vs=[.ref p,.int d,.str (Tx tw)]/\H p=some (.ins aJ dx (acB m0 m1 dv m3 wv tm))/\(0<=m0/\0<=m1/\0<=m3)/\DV (⟨aB,aE,aF,aH,aD,aA,aG,aI⟩:Cs) H dv kd/\DV (⟨aB,aE,aF,aH,aD,aA,aG,aI⟩:Cs) H wv kw/\ae5 m0 m1 m3 kd kw d (.str (Tx tw))/\∀(r:Int) (H':Hp),d<=r->(tw≠[109,105,110,117,116,101]->(r+1)%60=0)->(∀t,d<=t->t<=r->ae5 m0 m1 m3 kd kw t (.str (Tx tw)))->Same H H'->Q (.int r) H'
def al2(K:FG):Sp:=λvs H Q _=>∃(p:Addr) (vs':List V) (sts:List TrX) (a b:Int) (tm:List Nat),vs=[.ref p,.int a,.int b,.str (Tx tm)]/\H p=some (.lst vs')/\Paired (TpX H) vs' sts/\vs'.length<=10000000/\∀H' us,H' p=some (.lst us)->Paired (TpX H') us (aiN sts a b tm)->(∀q o,q≠p->H q=some o->H' q=some o)->Q .non H'
def atE(K:FG)(aB aE aF aH aD aA aG aI aJ:Addr):Sp:=λvs H Q _=>∃(p:Addr) (b e m0 m1 m3:Int) (kd kw:Ko),vs=[.ref p,.int b,.int e]/\RowR (⟨aB,aE,aF,aH,aD,aA,aG,aI⟩:Cs) aJ H p m0 m1 m3 kd kw/\(∀t,b<=t->t<=e->¬EvG (aaP (tmF m1 m0) m3 kd kw) t)/\e-b<=23000000/\∀l us sts H',H l=none->Same H H'->H' l=some (.lst us)->Paired (TpX H') us sts->us.length<=10000000->(b<=e+1->Cov m0 m1 m3 kd kw b sts (e+1))->(e<b->us=[])->Q (.ref l) H'
def ae7(K:FG)(C:Addr)(aB aE aF aH aD aA aG aI:Addr):Sp:=λvs H Q _=>∃(p dx:Addr) (m0 m1 m3 tm k:Int) (dv wv:V) (kd kw:Ko),vs=[.ref p,.int k]/\H p=some (.ins C dx (acB m0 m1 dv m3 wv tm))/\(0<=k/\k<=90)/\0<=m3/\DV (⟨aB,aE,aF,aH,aD,aA,aG,aI⟩:Cs) H dv kd/\DV (⟨aB,aE,aF,aH,aD,aA,aG,aI⟩:Cs) H wv kw/\∀D H',Same H H'->H' D=some (.lst ((acX (aaP tm m3 kd kw) k).map V.int))->Q (.ref D) H'
def aoB(P:Program)(w:World)(mg:Str->Option Value)(base:Heap)(K:FG):Sp:=λvs H Q _=>∃(kn f:Addr) (kd:Int) (kvs:List (Key×V)) (g:Int->Nat->Int) (H0:Hp),vs=[.ref kn,.ref f,.int kd]/\(0<=kd/\kd<=90)/\H kn=some (.dK kvs)/\aB1 g kvs/\kvs.length<=1000/\GOk g/\H0 kn=none/\Same H0 H/\awD P w K mg base 8 H0 f g/\∀kvs' H',H' kn=some (.dK kvs')->aB1 g kvs'->kvs'.length<=kvs.length+1->(∀b o,b≠kn->H b=some o->H' b=some o)->Q (.int (wK g kd)) H'
def asV(P:Program)(w:World)(mg:Str->Option Value)(base:Heap)(K:FG):Sp:=λvs H Q _=>∃(f:Addr) (mo:Int) (g:Int->Nat->Int),vs=[.ref f,.int mo]/\GOk g/\awD P w K mg base 8 H f g/\(∀e H',Same H H'->EvG g e->mo<=e->(∀t,mo<=t->t<e->¬EvG g t)->e-mo<=22000000->Q (.int e) H')/\(∀H',Same H H'->(∀t,¬EvG g t)->Q .non H')
def apY(K:FG)(aB aE aF aH aD aA aG aI aJ aK aL:Addr):Sp:=λvs H Q _=>∃(p:Addr) (mo m0 m1 m3:Int) (kd kw:Ko),vs=[.ref p,.int mo]/\RowR (⟨aB,aE,aF,aH,aD,aA,aG,aI⟩:Cs) aJ H p m0 m1 m3 kd kw/\awA H aK aL/\∀t l us H' (v:V),SameN H H'->awA H' aK aL->aD1 H l->H' t=some (.tup [v,.ref l])->H' l=some (.lst us)->((∃e,v=.int e/\EvG (aaP (tmF m1 m0) m3 kd kw) e/\(mo<=e/\∀t,mo<=t->t<e->¬EvG (aaP (tmF m1 m0) m3 kd kw) t)/\(e=mo->us=[])/\us.length<=10000000/\∃sts,Paired (TpX H') us sts/\Cov m0 m1 m3 kd kw mo sts e)∨(v=.non/\us=[]/\∀t,¬EvG (aaP (tmF m1 m0) m3 kd kw) t))->Q (.ref t) H'
def ak8(K:FG):Sp:=λvs H Q _=>∃(a:Addr) (k:Int),vs=[.ref a,.int k]/\(∃ns:List Int,SqL K H a (ns.map V.int))/\(0<=k/\k<1000)/\∀c:Int,Q (.int c) H
def arN(K:FG):Sp:=λvs H Q _=>∃n:Int,vs=[.int n]/\∀r:Int,0<=r->r<2147483629->Q (.int r) H
def am7(K:FG):Sp:=λvs H Q _=>∃(c:Int) (a:Addr) (b:Bool) (ss:List Int),vs=[.int c,.ref a,.bl b]/\SqL K H a (ss.map V.int)/\(∀z∈ss,0<z/\z<1073741824)/\ss.length<=63/\∀(ds:List Int) (p:Addr) (H':Hp),Same H H'->H' p=some (.lst (ds.map V.int))->Digs ds ss->Q (.ref p) H'
def apZ(K:FG):Sp:=λvs H Q _=>∃(p:Addr) (fm fi la st lo hi:Int),vs=[.ref p,.int lo,.int hi]/\SqL K H p [.int fm,.int fi,.int la,.int st]/\(0<=lo/\lo<=hi/\hi<=63)/\∀(t u:Addr) (tw:List Nat) (ns:List Int) (H':Hp),Same H H'->H' t=some (.tup [.str (Tx tw),.ref u])->H' u=some (.lst (ns.map V.int))->aeK lo hi tw ns->Asc tw->Q (.ref t) H'
def alB(K:FG):Sp:=λvs H Q _=>∃(c lo hi:Int) (bm:Bool),vs=[.int c,.int lo,.int hi,.bl bm]/\(0<=lo/\lo<hi/\hi<=62)/\∀(t N:Addr) (tw:List Nat) (ns:List Int) (H':Hp),Same H H'->H' t=some (.tup [.str (Tx tw),.ref N])->H' N=some (.lst (ns.map V.int))->(∀n∈ns,lo<=n/\n<=hi)->ns≠[]->ns.length<=200->FT lo hi tw (aaG ns)->Q (.ref t) H'
def an5(K:FG):Sp:=λvs H Q _=>∃y:Int,vs=[.int y]/\Q (.int (db y)) H
def am1(K:FG):Sp:=λvs H Q _=>∃(c:Int) (bm:Bool),vs=[.int c,.bl bm]/\∀(mo:Int) (H':Hp),Same H H'->Q (.int mo) H'
def aqN(K:FG):Sp:=λvs H Q _=>∃(c:Int) (bm:Bool),vs=[.int c,.bl bm]/\∀(t:Addr) (tw:List Nat) (v:V) (ko:Ko) (H':Hp),Same H H'->H' t=some (.tup [.str (Tx tw),v])->DT false tw ko->MV H' v ko->Q (.ref t) H'
def ai9(K:FG):Sp:=λvs H Q _=>∃(c:Int) (bm:Bool),vs=[.int c,.bl bm]/\∀(t:Addr) (tw:List Nat) (v:V) (ko:Ko) (H':Hp),Same H H'->H' t=some (.tup [.str (Tx tw),v])->DT true tw ko->MV H' v ko->Q (.ref t) H'
def aq0(K:FG):Sp:=λvs H Q _=>∃d l f:Int,vs=[.int d,.int l,.int f]/\Lf l f/\Dl d l/\∀H',Same H H'->Q (.int (nw d l f)) H'
def am4(K:FG):Sp:=λvs H Q _=>∃(v:V) (k:Mk) (d l f:Int),vs=[v,.int d,.int l,.int f]/\MkD H v k/\k.ok/\Lf l f/\Dl d l/\∀H',Same H H'->Q (.bl (tb (k.due l f) d.toNat)) H'
def auC(K:FG):Sp:=λvs H Q _=>∃(a:Addr) (us:List V) (ks:List Mk) (d l f:Int),vs=[.ref a,.int d,.int l,.int f]/\H a=some (.lst us)/\Paired (MkD H) us ks/\(∀k∈ks,k.ok)/\Lf l f/\Dl d l/\∀H',Same H H'->Q (.bl (ks.any λk=>tb (k.due l f) d.toNat)) H'
def ajC(K:FG):Sp:=λvs H Q _=>∃(s:Addr) (x0 x1 x2 v3 x4 v5:V) (kd kw:Ko) (d l f:Int),vs=[.ref s,.int d,.int l,.int f]/\H s=some (.tup [x0,x1,x2,v3,x4,v5])/\MV H v3 kd/\MV H v5 kw/\Lf l f/\Dl d l/\∀H',Same H H'->Q (.bl (tb (aaO kd kw l f) d.toNat)) H'
def aqR(K:FG):Sp:=λvs H Q _=>∃y m:Int,vs=[.int y,.int m]/\(1<=m/\m<=12)/\∀H',Same H H'->Q (.int (aaF y m)) H'
def aqX(K:FG):Sp:=λvs H Q _=>∃d:Int,vs=[.int d]/\∀(y m k:Int) (p:Addr) (H':Hp),OkD y m k->abY y m k=d->Same H H'->H' p=some (.tup [.int m,.int k,.int (aaF y m),.int ((d-k+1+6)%7)])->Q (.ref p) H'
def aq8(K:FG):Sp:=λvs H Q _=>∃(s:Addr) (ns0 ns1 ns3:List Int) (kd kw:Ko) (d:Int),vs=[.ref s,.int d]/\LS H s ns0 ns1 ns3 kd kw/\∀(y m k:Int) (H':Hp),OkD y m k->abY y m k=d->Same H H'->Q (.str (Tx (ah7 (aaG ns3) kd kw d y m k))) H'
def arH(K:FG):Sp:=λvs H Q _=>∃(s:Addr) (ns0 ns1 ns3:List Int) (kd kw:Ko) (t:Int),vs=[.ref s,.int t]/\LS H s ns0 ns1 ns3 kd kw/\∀(y m k:Int) (H':Hp),OkD y m k->abY y m k=t / 1440->Same H H'->Q (wN (shK (aaG ns0) (aaG ns1) (aaG ns3) kd kw (t / 1440) (t%1440) y m k)) H'
def anM(K:FG):Sp:=λvs H Q _=>∃i:Int,vs=[.int i]/\Q (.bl true) H
def agC(K:FG):Sp:=λvs H Q _=>∃(s:Addr) (ns0 ns1 ns3:List Int) (kd kw:Ko) (f l:Int),vs=[.ref s,.int f,.int l]/\LS H s ns0 ns1 ns3 kd kw/\f<=l/\(∀t,f<=t->t<=l->ae5 (aaG ns0) (aaG ns1) (aaG ns3) kd kw t (.str (Tx [109,111,110,116,104])))/\∀H',Same H H'->Q (.bl true) H'
def ag2(K:FG):Sp:=λvs H Q _=>∃(s:Addr) (ns0 ns1 ns3:List Int) (kd kw:Ko) (f l:Int) (tw:List Nat),vs=[.ref s,.int f,.int l,.str (Tx tw),.bl true]/\LS H s ns0 ns1 ns3 kd kw/\f<=l/\(∀t,f<=t->t<=l->ae5 (aaG ns0) (aaG ns1) (aaG ns3) kd kw t (.str (Tx tw)))/\((tw=[104,111,117,114]/\l-f<1440)∨(tw=[109,105,110,117,116,101]/\l-f<60))/\∀H',Same H H'->Q (.bl true) H'
def aqP(K:FG):Sp:=λvs H Q _=>∃(s:Addr) (ns0 ns1 ns3:List Int) (kd kw:Ko) (f l:Int) (tw:List Nat),vs=[.ref s,.int f,.int l,.str (Tx tw),.bl true]/\LS H s ns0 ns1 ns3 kd kw/\f<=l/\(∀t,f<=t->t<=l->ae5 (aaG ns0) (aaG ns1) (aaG ns3) kd kw t (.str (Tx tw)))/\(∃h,Hit (aaG ns0) (aaG ns1) (aaG ns3) kd kw h)/\∀H',Same H H'->Q (.bl true) H'
def ai6(K:FG):Sp:=λvs H Q _=>∃(t:Addr) (a b:Int) (w:List Nat),vs=[.ref t]/\H t=some (.tup [.int a,.int b,.str (Tx w)])/\Q (.bl true) H
def amM(K:FG):Sp:=λvs H Q _=>∃(s:Addr) (ns0 ns1 ns3:List Int) (kd kw:Ko) (b e:Int) (l:Addr) (us:List V) (sts:List TrX),vs=[.ref s,.int b,.int e,.ref l,.bl true]/\LS H s ns0 ns1 ns3 kd kw/\H l=some (.lst us)/\Paired (TpX H) us sts/\Cov (aaG ns0) (aaG ns1) (aaG ns3) kd kw b sts (e+1)/\(∃h,Hit (aaG ns0) (aaG ns1) (aaG ns3) kd kw h)/\∀H',Same H H'->Q (.bl true) H'
def an4(K:FG):Sp:=λvs H Q _=>∃(s:Addr) (x0 x1 x2 v3 v5:V) (Mn:Addr) (kd kw:Ko) (ns:List Int),vs=[.ref s]/\H s=some (.tup [x0,x1,x2,v3,.ref Mn,v5])/\H Mn=some (.lst (ns.map V.int))/\(∀n∈ns,1<=n/\n<=12)/\ns.length<=200/\MV H v3 kd/\MV H v5 kw/\∀(b:Bool) (H':Hp),Same H H'->(b=true↔Nvl ns kd kw)->Q (.bl b) H'
def arM(K:FG):Sp:=λvs H Q _=>∃(a:Addr) (c0 c1 c2 c3 c4:Int) (bm:Bool),vs=[.ref a,.bl bm]/\SqL K H a [.int c0,.int c1,.int c2,.int c3,.int c4]/\∀(t:Addr) (w0 w1 w2 w3 w4:List Nat) (ns0 ns1 ns3:List Int) (kd kw:Ko) (H':Hp),Same H H'->(∃v1 v2 v3 v4 v5:V,H' t=some (.tup [.str (Tx (aaY 32 [w0,w1,w2,w3,w4])),v1,v2,v3,v4,v5]))->LS H' t ns0 ns1 ns3 kd kw->(ns0≠[]/\ns1≠[]/\ns3.length<=200)->FT 0 59 w0 (aaG ns0)->FT 0 23 w1 (aaG ns1)->FT 1 12 w3 (aaG ns3)->DT false w2 kd->DT true w4 kw->(aaG ns0<2^60/\aaG ns1<2^24)->Q (.ref t) H'
def aoC(K:FG):Sp:=λvs H Q _=>∃(s:Addr) (ns0 ns1 ns3:List Int) (kd kw:Ko) (mo:Int) (v:V) (l:Addr) (us:List V),vs=[.ref s,.int mo,v,.ref l]/\LS H s ns0 ns1 ns3 kd kw/\ns3.length<=200/\H l=some (.lst us)/\((v=.non/\us=[]/\Nvl ns3 kd kw)∨∃(e:Int) (sts:List TrX),v=.int e/\mo<=e/\us.length<=100/\Paired (TpX H) us sts/\Cov (aaG ns0) (aaG ns1) (aaG ns3) kd kw mo sts e/\Hit (aaG ns0) (aaG ns1) (aaG ns3) kd kw e)/\∀H',Same H H'->Q (.bl true) H'
def aqJ(K:FG)(aK aL:Addr):Sp:=λvs H Q _=>∃(a:Addr) (ns:List Int),vs=[.ref a]/\SqL K H a (ns.map V.int)/\ns.length<=63/\awA H aK aL/\∀H',Q (.bl true) H'
theorem md_Last___init__{K:FG}{C f T:Addr}{od an tod:Option Addr}{sl tsl:Array (Option Value)}{oc kV dc pm cd ct:Value}{tn:Nat}{t0:Tok}(a:PySem.W.findIn K (.ref C) "__init__"=some (some (.ref f)))(i:PySem.W.isFn K (.ref f)=true)(l:K.lookup f=some ⟨oc,od,.func (PySem.W.fnOf "__init__" "Last.__init__" (abC abF) (aaX abF) (aaC abF) (.ref T) kV dc pm an cd ct),sl⟩)(c:PySem.W.codeIn K cd "Last.__init__"=true)(k:PySem.W.keepIn K (.ref f)=true)(lt:K.lookup T=some ⟨.type "tuple",tod,.seq #[.int 0 t0] tn,tsl⟩):FnMD K C "__init__" "Last.__init__" abF ["self","back"] [.int 0]:=
 aGU (ds:=[.int 0 t0]) a i l c k (λs us X hl=>match us,(show us.length=2 by simpa using hl) with | [_,_],_=>PySem.W.binds_K X rfl lt rfl rfl rfl) (.cons ⟨()⟩ .nil) (λs us X hl=>match us,(show us.length=1 by simpa using hl) with | [_],_=>PySem.W.binds_K X rfl lt rfl rfl rfl)
theorem q_MONTH_LASTS{K:FG}{a:Addr}{od:Option Addr}{sl:Array (Option Value)}{n:Nat}{t0 t1 t2 t3 t4 t5 t6 t7 t8 t9 t10 t11:Tok}(l:K.lookup a=some ⟨.type "tuple",od,.seq #[.int 31 t0,.int 28 t1,.int 31 t2,.int 30 t3,.int 31 t4,.int 30 t5,.int 31 t6,.int 31 t7,.int 30 t8,.int 31 t9,.int 30 t10,.int 31 t11] n,sl⟩):∀H,SqT K H a (([31,28,31,30,31,30,31,31,30,31,30,31]:List Int).map V.int):=λH=>.inr ⟨_,_,_,l,rfl,rfl,(zL 12),(.cons ⟨()⟩ (.cons ⟨()⟩ (.cons ⟨()⟩ (.cons ⟨()⟩ (.cons ⟨()⟩ (.cons ⟨()⟩ (.cons ⟨()⟩ (.cons ⟨()⟩ (.cons ⟨()⟩ (.cons ⟨()⟩ (.cons ⟨()⟩ (.cons ⟨()⟩ .nil))))))))))))⟩
theorem q_BOUNDS{K:FG}{a b0 b1 b3:Addr}{ep:Nat}{t0 t1 t3:Tok}(l:K.lookup a=some ⟨.type "dict",none,.dict #[⟨0,.int 0 t0,.ref b0⟩,⟨1,.int 1 t1,.ref b1⟩,⟨3,.int 3 t3,.ref b3⟩] ep,#[]⟩):KD K a [(0,.ref b0),(1,.ref b1),(3,.ref b3)]:=by
 refine⟨_,ep,[(.inl 0,.ref b0),(.inl 1,.ref b1),(.inl 3,.ref b3)],l,(.cons ⟨rfl,rfl⟩ (.cons ⟨rfl,rfl⟩ (.cons ⟨rfl,rfl⟩ .nil))),(show ([.inl 0,.inl 1,.inl 3]:List Key).Nodup by decide),λP w=>⟨?_,(.cons rfl rfl (.cons rfl rfl (.cons rfl rfl .nil)))⟩⟩;intro e he;simp only[Array.mem_toArray,aX,cF,or_false] at he;rcases he with rfl | rfl | rfl
 ·exact⟨.inl 0,rfl,rfl⟩
 ·exact⟨.inl 1,rfl,rfl⟩
 ·exact⟨.inl 3,rfl,rfl⟩
theorem q_BOUNDS_0{K:FG}{a:Addr}{od:Option Addr}{sl:Array (Option Value)}{n:Nat}{t0 t1:Tok}(l:K.lookup a=some ⟨.type "tuple",od,.seq #[.int 0 t0,.int 59 t1] n,sl⟩):∀H,SqT K H a (([0,59]:List Int).map V.int):=λH=>.inr ⟨_,_,_,l,rfl,rfl,(zL 2),(.cons ⟨()⟩ (.cons ⟨()⟩ .nil))⟩
theorem q_BOUNDS_1{K:FG}{a:Addr}{od:Option Addr}{sl:Array (Option Value)}{n:Nat}{t0 t1:Tok}(l:K.lookup a=some ⟨.type "tuple",od,.seq #[.int 0 t0,.int 23 t1] n,sl⟩):∀H,SqT K H a (([0,23]:List Int).map V.int):=λH=>.inr ⟨_,_,_,l,rfl,rfl,(zL 2),(.cons ⟨()⟩ (.cons ⟨()⟩ .nil))⟩
theorem q_BOUNDS_3{K:FG}{a:Addr}{od:Option Addr}{sl:Array (Option Value)}{n:Nat}{t0 t1:Tok}(l:K.lookup a=some ⟨.type "tuple",od,.seq #[.int 1 t0,.int 12 t1] n,sl⟩):∀H,SqT K H a (([1,12]:List Int).map V.int):=λH=>.inr ⟨_,_,_,l,rfl,rfl,(zL 2),(.cons ⟨()⟩ (.cons ⟨()⟩ .nil))⟩
theorem mg_tx{K:FG}{h:Heap}{mg:Str->Option Value}{x n:Str}{l:List Nat}{t:Tok}(X:K.In h)(G:h.Ns mainGlobals mg)(e:x=Tx l)(a:PySem.W.nsIn K mainGlobals n=some (some (.str x t))):mg n=some (.str (Tx l) t):=e▸PySem.W.mg_of X G a
theorem awG:FnScope ["year"] ["year"] (aaC (top 12)):=fsc
theorem agG:FnScope ["year","step"] ["year","step"] (aaC (top 13)):=fsc
theorem Ut:FnScope ["year","longs"] ["year"] (aaC (top 14)):=fsc
theorem avI:FnScope ["year","month"] ["year","month"] (aaC (top 15)):=fsc
theorem auX:FnScope ["thing"] ["thing"] (aaC (top 7)):=fsc
theorem au9:FnScope ["year","month","day"] ["year","month","day"] (aaC (top 16)):=fsc
theorem Us:FnScope ["year","month","day","ahead"] ["year","month","day"] (aaC (top 17)):=fsc
theorem UV:FnScope ["day","year"] ["day"] (aaC (top 18)):=fsc
theorem Ur:FnScope ["day","year","month","rest"] ["day"] (aaC (top 19)):=fsc
theorem avQ:FnScope ["day"] ["day"] (aaC (top 20)):=fsc
theorem Uw:FnScope ["year","month","day","place"] ["year","month","day"] (aaC (top 33)):=fsc
theorem avP:FnScope ["year","month"] ["year","month"] (aaC (top 34)):=fsc
theorem UG:FnScope ["moment","time"] ["moment"] (aaC (top 28)):=fsc
theorem al4:FnScope ["text"] ["text"] (aaC (top 23)):=fsc
theorem an0:FnScope ["text"] ["text"] (aaC (top 24)):=fsc
theorem aIC:FnScope ["mask","number"] ["mask","number"] (aaC (top 38)):=fsc
theorem Uz:FnScope ["numbers","mask","number"] ["numbers"] (aaC (top 61)):=fsc
theorem anT:FnScope ["mask"] ["mask"] (aaC (top 62)):=fsc
theorem atU:FnScope ["first","last","stride"] ["first","last","stride"] (aaC (top 63)):=fsc
theorem UM:FnScope ["text","low","high","number"] ["text","low","high"] (aaC (top 64)):=fsc
theorem UO:FnScope ["text","low","high","ends"] ["text","low","high"] (aaC (top 65)):=fsc
theorem UP:FnScope ["run_text","stride_text","low","high","run","stride","last"] ["run_text","stride_text","low","high"] (aaC (top 66)):=fsc
theorem UK:FnScope ["item","low","high","parts","run"] ["item","low","high"] (aaC (top 67)):=fsc
theorem UJ:FnScope ["text","low","high","items","mask","place","item","told"] ["text","low","high"] (aaC (top 68)):=fsc
theorem anZ:FnScope ["day","first"] ["day","first"] (aaC (top 78)):=fsc
theorem asL:FnScope ["last"] ["last"] (aaC (top 79)):=fsc
theorem UD:FnScope ["day","last","first","of_week"] ["day","last","first"] (aaC (top 80)):=fsc
theorem aqD:FnScope ["weekday","first"] ["weekday","first"] (aaC (top 81)):=fsc
theorem ap9:FnScope ["self","last","first"] ["self","last","first"] (aaC aj8):=fsc
theorem agB:FnScope ["self","mask"] ["self","mask"] (aaC adC):=fsc
theorem akU:FnScope ["self","last","first"] ["self","last","first"] (aaC afE):=fsc
theorem aiV:FnScope ["self","back"] ["self","back"] (aaC abF):=fsc
theorem arZ:FnScope ["self","last","first"] ["self","last","first"] (aaC akR):=fsc
theorem ajN:FnScope ["self","day"] ["self","day"] (aaC aeZ):=fsc
theorem aqH:FnScope ["self","last","first"] ["self","last","first"] (aaC akP):=fsc
theorem ajK:FnScope ["self","last","first"] ["self","last","first"] (aaC aeT):=fsc
theorem af1:FnScope ["self","mask"] ["self","mask"] (aaC acU):=fsc
theorem U4:FnScope ["self","last","first","weeks","week"] ["self","last","first"] (aaC aeO):=fsc
theorem akW:FnScope ["self","weekday","many"] ["self","weekday","many"] (aaC afQ):=fsc
theorem U0:FnScope ["self","last","first","day"] ["self","last","first"] (aaC anJ):=fsc
theorem agA:FnScope ["self","weekday"] ["self","weekday"] (aaC adF):=fsc
theorem alH:FnScope ["self","last","first"] ["self","last","first"] (aaC afJ):=fsc
theorem Uq:FnScope ["marks","last","first","mask","mark"] ["marks","last","first"] (aaC (top 90)):=fsc
theorem UH:FnScope ["item","back","day"] ["item"] (aaC (top 91)):=fsc
theorem UQ:FnScope ["text","number"] ["text"] (aaC (top 92)):=fsc
theorem UR:FnScope ["item","weekday","parts","many"] ["item"] (aaC (top 93)):=fsc
theorem UL:FnScope ["text","low","high","read_mark","items","mask","marks","place","item","plain","mark"] ["text","low","high","read_mark"] (aaC (top 94)):=fsc
theorem UI:FnScope ["text","read"] ["text"] (aaC (top 95)):=fsc
theorem US:FnScope ["text","read","mask"] ["text"] (aaC (top 96)):=fsc
theorem UB:FnScope ["kind","place","first"] ["kind"] (aaC (top 35)):=fsc
theorem UU:FnScope ["hours","minutes","times","hour"] ["hours","minutes"] (aaC (top 106)):=fsc
theorem Uu:FnScope ["days","weekdays","last","first","mask","marks"] ["days","weekdays","last","first"] (aaC (top 107)):=fsc
theorem ak3:FnScope ["self","fields"] ["self","fields"] (aaC afW):=fsc
theorem U1:FnScope ["self","kind","month"] ["self","kind"] (aaC agZ):=fsc
theorem UT:FnScope ["word","place","bounds"] ["word","place"] (aaC (top 109)):=fsc
theorem avO:FnScope ["word","place"] ["word","place"] (aaC (top 110)):=fsc
theorem UN:FnScope ["text","words"] ["text"] (aaC (top 111)):=fsc
theorem U3:FnScope ["self","moment","parts","date"] ["self","moment"] (aaC agM):=fsc
theorem an7:FnScope ["year","month"] ["year","month"] (aaC (top 36)):=fsc
theorem UC:FnScope ["moment","date"] ["moment"] (aaC (top 54)):=fsc
theorem UA:FnScope ["days","minutes","place","times"] ["days"] (aaC (top 52)):=fsc
theorem az4:FnScope ["mask"] ["mask"] (aaC (top 39)):=fsc
theorem Ux:FnScope ["row","day","date","kind","later"] ["row","day"] (aaC (top 47)):=fsc
theorem auQ:FnScope ["row","moment","word"] ["row","moment","word"] (aaC (top 48)):=fsc
theorem amU:FnScope ["stretches","first","last","told"] ["stretches","first","last","told"] (aaC (top 46)):=fsc
theorem UF:FnScope ["row","begin","end","stretches","moment","word","last"] ["row","begin","end"] (aaC (top 49)):=fsc
theorem U2:FnScope ["self","kind","days","last"] ["self","kind"] (aaC agY):=fsc
theorem an2:FnScope ["known","on_days","kind"] ["known","on_days","kind"] (aaC (top 53)):=fsc
theorem Uv:FnScope ["on_days","moment","month","known","turn","start","passed","rest"] ["on_days","moment"] (aaC (top 55)):=fsc
theorem UE:FnScope ["row","moment","found"] ["row","moment"] (aaC (top 56)):=fsc
theorem ak7:FnScope ["_law_script","_law_k"] ["_law_script","_law_k"] (aaC (top 113)):=fsc
theorem Uj:FnScope ["_law_number","_law_first","_law_second"] ["_law_number"] (aaC (top 114)):=fsc
theorem U9:FnScope ["_law_cell","_law_sizes","_law_mixed","_law_found","_law_size"] ["_law_cell","_law_sizes","_law_mixed"] (aaC (top 115)):=fsc
theorem Ua:FnScope ["_law_parts","_law_low","_law_high","_law_form","_law_one","_law_later","_law_by"] ["_law_parts","_law_low","_law_high"] (aaC (top 117)):=fsc
theorem Ug:FnScope ["_law_cell","_law_low","_law_high","_law_mixed","_law_size","_law_drawn","_law_texts","_law_numbers_here","_law_k","_law_text","_law_some"] ["_law_cell","_law_low","_law_high","_law_mixed"] (aaC (top 118)):=fsc
theorem anU:FnScope ["_law_year"] ["_law_year"] (aaC (top 126)):=fsc
theorem Uc:FnScope ["_law_cell","_law_mixed","_law_drawn","_law_year","_law_number"] ["_law_cell","_law_mixed"] (aaC (top 131)):=fsc
theorem U8:FnScope ["_law_cell","_law_mixed","_law_drawn","_law_texts","_law_marks","_law_k","_law_sort","_law_form","_law_one","_law_later","_law_by","_law_text","_law_some","_law_mark"] ["_law_cell","_law_mixed"] (aaC (top 119)):=fsc
theorem Uo:FnScope ["_law_cell","_law_mixed","_law_drawn","_law_texts","_law_marks","_law_k","_law_sort","_law_form","_law_one","_law_later","_law_by","_law_text","_law_some","_law_mark"] ["_law_cell","_law_mixed"] (aaC (top 120)):=fsc
theorem Ue:FnScope ["_law_day","_law_last_here","_law_first","_law_gap","_law_one"] ["_law_day","_law_last_here","_law_first"] (aaC (top 122)):=fsc
theorem Ub:FnScope ["_law_mark","_law_day","_law_last_here","_law_first","_law_word_here","_law_one","_law_many","_law_weekday_here"] ["_law_mark","_law_day","_law_last_here","_law_first"] (aaC (top 123)):=fsc
theorem U5:FnScope ["_law_marks","_law_day","_law_last_here","_law_first","_law_mark"] ["_law_marks","_law_day","_law_last_here","_law_first"] (aaC (top 124)):=fsc
theorem U7:FnScope ["_law_spec_here","_law_day","_law_last_here","_law_first","_law_days_here","_law_weekdays_here"] ["_law_spec_here","_law_day","_law_last_here","_law_first"] (aaC (top 125)):=fsc
theorem arU:FnScope ["_law_year","_law_month"] ["_law_year","_law_month"] (aaC (top 127)):=fsc
theorem U6:FnScope ["_law_number","_law_rounds","_law_left","_law_year","_law_month"] ["_law_number"] (aaC (top 128)):=fsc
theorem Ul:FnScope ["_law_spec_here","_law_number","_law_month","_law_day","_law_last_here","_law_first"] ["_law_spec_here","_law_number"] (aaC (top 129)):=fsc
theorem Up:FnScope ["_law_spec_here","_law_moment_here","_law_told_here"] ["_law_spec_here","_law_moment_here"] (aaC (top 130)):=fsc
theorem aoF:FnScope ["_law_found"] ["_law_found"] (aaC (top 116)):=fsc
theorem Ud:FnScope ["_law_spec_here","_law_first","_law_last_here","_law_number","_law_month","_law_day","_law_ends","_law_begins"] ["_law_spec_here","_law_first","_law_last_here"] (aaC (top 132)):=fsc
theorem Uk:FnScope ["_law_spec_here","_law_first","_law_last_here","_law_word_here","_law_strict","_law_size","_law_at"] ["_law_spec_here","_law_first","_law_last_here","_law_word_here","_law_strict"] (aaC (top 133)):=fsc
theorem Uh:FnScope ["_law_spec_here","_law_first","_law_last_here","_law_word_here","_law_strict","_law_number"] ["_law_spec_here","_law_first","_law_last_here","_law_word_here","_law_strict"] (aaC (top 134)):=fsc
theorem ajZ:FnScope ["_law_thing"] ["_law_thing"] (aaC (top 135)):=fsc
theorem Um:FnScope ["_law_spec_here","_law_begin","_law_end","_law_paper","_law_strict","_law_at","_law_ahead","_law_thing"] ["_law_spec_here","_law_begin","_law_end","_law_paper","_law_strict"] (aaC (top 136)):=fsc
theorem Uf:FnScope ["_law_spec_here","_law_month","_law_ends","_law_last_here","_law_first","_law_day"] ["_law_spec_here"] (aaC (top 137)):=fsc
theorem Ui:FnScope ["_law_cells","_law_mixed","_law_minutes","_law_hours","_law_days_here","_law_months","_law_weekdays_here","_law_rare","_law_text"] ["_law_cells","_law_mixed"] (aaC (top 121)):=fsc
theorem anP:FnScope ["_law_spec_here","_law_moment_here","_law_found","_law_paper"] ["_law_spec_here","_law_moment_here","_law_found","_law_paper"] (aaC (top 138)):=fsc
theorem Uy:FnScope ["_law_script","_law_mixed","_law_k","_law_cells","_law_spec_here","_law_moment_here","_law_told_here"] ["_law_script"] (aaC (top 139)):=fsc
structure Fs(K:FG)(mg:Str->Option Value)(aI aB aE aF aH aD aA aG aJ aO aM aP aK aL a_MONTH_LASTS a_BOUNDS a_BOUNDS_0 a_BOUNDS_1 a_BOUNDS_3:Addr)(t_ROUND_DAYS t_ROUND_YEARS t_LONG_PLACE t_DAY_MINUTES t_HOUR_MINUTES t_FIGURES t_MOST_STRIDE t_MOST_SIGNS t_MOST_ITEMS t_SATURDAY t_SUNDAY t_MOST_BACK t_MOST_DAY t_SUNDAY_TOO t_MOST_NTH t_MOST_MARKS t_ALL_WEEKDAYS t_LONG_LAST t_SHORT_YEAR t_MINUTE t_HOUR t_DAY t_MONTH t_WEEKDAY t_MOST_ROW_SIGNS t_NO_PLACE t_MOST_MONTHS:Tok):Prop where
 ey:Cd K mg "Mark" aI
 e5:PySem.W.findIn K (.ref aI) "__init__"=some (some (.builtin "object.__init__"))
 ar:Cd K mg "Numbers" aB
 a4:PySem.W.findIn K (.ref aB) "mask"=some none
 as:Cd K mg "Last" aE
 aw:PySem.W.findIn K (.ref aE) "back"=some none
 ax:Cd K mg "Near" aF
 ay:PySem.W.findIn K (.ref aF) "day"=some none
 bc:Cd K mg "LastWork" aH
 dw:PySem.W.findIn K (.ref aH) "__init__"=some (some (.builtin "object.__init__"))
 ao:Cd K mg "Weekdays" aD
 az:PySem.W.findIn K (.ref aD) "mask"=some none
 a0:Cd K mg "Nth" aA
 a5:PySem.W.findIn K (.ref aA) "weekday"=some none
 bd:PySem.W.findIn K (.ref aA) "many"=some none
 au:Cd K mg "LastOne" aG
 av:PySem.W.findIn K (.ref aG) "weekday"=some none
 ac:Cd K mg "Row" aJ
 ah:PySem.W.findIn K (.ref aJ) "minute_mask"=some none
 al:PySem.W.findIn K (.ref aJ) "hour_mask"=some none
 a1:PySem.W.findIn K (.ref aJ) "day_marks"=some none
 ai:PySem.W.findIn K (.ref aJ) "month_mask"=some none
 ap:PySem.W.findIn K (.ref aJ) "weekday_marks"=some none
 a2:PySem.W.findIn K (.ref aJ) "time_mask"=some none
 aq:mg "read_weekday_mark"=some (.ref aO)
 a3:mg "read_day_mark"=some (.ref aM)
 cf:mg "MONTH_LASTS"=some (.ref a_MONTH_LASTS)
 a6:∀H,SqT K H a_MONTH_LASTS (([31,28,31,30,31,30,31,31,30,31,30,31]:List Int).map V.int)
 a8:mg "ROUND_DAYS"=some (.int 146097 t_ROUND_DAYS)
 cg:mg "ROUND_YEARS"=some (.int 400 t_ROUND_YEARS)
 a9:mg "LONG_PLACE"=some (.int 12 t_LONG_PLACE)
 ad:mg "DAY_MINUTES"=some (.int 1440 t_DAY_MINUTES)
 af:mg "HOUR_MINUTES"=some (.int 60 t_HOUR_MINUTES)
 eg:mg "FIGURES"=some (.str (Tx [48,49,50,51,52,53,54,55,56,57]) t_FIGURES)
 ch:mg "MOST_STRIDE"=some (.int 99 t_MOST_STRIDE)
 ba:mg "MOST_SIGNS"=some (.int 300 t_MOST_SIGNS)
 aj:mg "MOST_ITEMS"=some (.int 40 t_MOST_ITEMS)
 dx:mg "SATURDAY"=some (.int 6 t_SATURDAY)
 bq:mg "SUNDAY"=some (.int 0 t_SUNDAY)
 da:mg "MOST_BACK"=some (.int 30 t_MOST_BACK)
 be:mg "MOST_DAY"=some (.int 31 t_MOST_DAY)
 ak:mg "SUNDAY_TOO"=some (.int 7 t_SUNDAY_TOO)
 dy:mg "MOST_NTH"=some (.int 5 t_MOST_NTH)
 cu:mg "MOST_MARKS"=some (.int 20 t_MOST_MARKS)
 b4:mg "ALL_WEEKDAYS"=some (.int 127 t_ALL_WEEKDAYS)
 db:mg "LONG_LAST"=some (.int 29 t_LONG_LAST)
 cv:mg "SHORT_YEAR"=some (.int 1 t_SHORT_YEAR)
 er:mg "MINUTE"=some (.int 0 t_MINUTE)
 ez:mg "HOUR"=some (.int 1 t_HOUR)
 dz:mg "DAY"=some (.int 2 t_DAY)
 ex:mg "MONTH"=some (.int 3 t_MONTH)
 bk:mg "WEEKDAY"=some (.int 4 t_WEEKDAY)
 es:mg "BOUNDS"=some (.ref a_BOUNDS)
 bb:KD K a_BOUNDS [(0,.ref a_BOUNDS_0),(1,.ref a_BOUNDS_1),(3,.ref a_BOUNDS_3)]
 bf:∀H,SqT K H a_BOUNDS_0 (([0,59]:List Int).map V.int)
 bg:∀H,SqT K H a_BOUNDS_1 (([0,23]:List Int).map V.int)
 bh:∀H,SqT K H a_BOUNDS_3 (([1,12]:List Int).map V.int)
 br:mg "MOST_ROW_SIGNS"=some (.int 1600 t_MOST_ROW_SIGNS)
 d0:mg "NO_PLACE"=some (.int 5 t_NO_PLACE)
 ci:mg "MOST_MONTHS"=some (.int 492 t_MOST_MONTHS)
 cw:Host K mg aP aK aL
 a7:mg "int"=none
 ab:mg "isinstance"=none
 cx:mg "bool"=none
 aa:mg "range"=none
 e0:mg "sum"=none
 e1:mg "all"=none
 an:mg "list"=none
 ag:mg "len"=none
 ae:mg "str"=none
 am:mg "enumerate"=none
 e2:mg "min"=none
 bs:mg "max"=none
 d1:mg "abs"=none
 b5:mg "tuple"=none
 e3:mg "set"=none
 et:mg "sorted"=none
 eh:Fn K mg "is_long" (top 12) ["year"]
 bl:Fn K mg "multiples_before" (top 13) ["year","step"]
 cj:Fn K mg "days_before" (top 14) ["year"]
 ei:Fn K mg "last_of" (top 15) ["year","month"]
 d2:Fn K mg "is_whole" (top 7) ["thing"]
 ej:Fn K mg "is_date" (top 16) ["year","month","day"]
 eu:Fn K mg "day_of" (top 17) ["year","month","day"]
 ek:Fn K mg "year_of" (top 18) ["day"]
 el:Fn K mg "date_of" (top 19) ["day"]
 em:Fn K mg "weekday" (top 20) ["day"]
 dc:Fn K mg "kind_from" (top 33) ["year","month","day"]
 en:Fn K mg "kind_of" (top 34) ["year","month"]
 ev:Fn K mg "parted" (top 28) ["moment"]
 ck:Fn K mg "all_figures" (top 23) ["text"]
 cy:Fn K mg "is_written" (top 24) ["text"]
 e4:Fn K mg "has" (top 38) ["mask","number"]
 eo:Fn K mg "mask_of" (top 61) ["numbers"]
 cz:Fn K mg "numbers_in" (top 62) ["mask"]
 d3:Fn K mg "run_mask" (top 63) ["first","last","stride"]
 cl:Fn K mg "read_number" (top 64) ["text","low","high"]
 d4:Fn K mg "read_run" (top 65) ["text","low","high"]
 b6:Fn K mg "read_strided" (top 66) ["run_text","stride_text","low","high"]
 dd:Fn K mg "read_item" (top 67) ["item","low","high"]
 c0:Fn K mg "read_field" (top 68) ["text","low","high"]
 c1:Fn K mg "weekday_at" (top 78) ["day","first"]
 d5:Fn K mg "all_days" (top 79) ["last"]
 b7:Fn K mg "nearest_work" (top 80) ["day","last","first"]
 de:Fn K mg "first_one" (top 81) ["weekday","first"]
 df:FnM K aI "days" "Mark.days" aj8 ["self","last","first"]
 bm:FnM K aB "__init__" "Numbers.__init__" adC ["self","mask"]
 b8:FnM K aB "days" "Numbers.days" afE ["self","last","first"]
 bt:FnMD K aE "__init__" "Last.__init__" abF ["self","back"] [.int 0]
 dg:FnM K aE "days" "Last.days" akR ["self","last","first"]
 bu:FnM K aF "__init__" "Near.__init__" aeZ ["self","day"]
 dh:FnM K aF "days" "Near.days" akP ["self","last","first"]
 bv:FnM K aH "days" "LastWork.days" aeT ["self","last","first"]
 bi:FnM K aD "__init__" "Weekdays.__init__" acU ["self","mask"]
 bw:FnM K aD "days" "Weekdays.days" aeO ["self","last","first"]
 b9:FnM K aA "__init__" "Nth.__init__" afQ ["self","weekday","many"]
 d6:FnM K aA "days" "Nth.days" anJ ["self","last","first"]
 bn:FnM K aG "__init__" "LastOne.__init__" adF ["self","weekday"]
 ca:FnM K aG "days" "LastOne.days" afJ ["self","last","first"]
 d7:Fn K mg "any_days" (top 90) ["marks","last","first"]
 bx:Fn K mg "read_day_mark" (top 91) ["item"]
 cb:Fn K mg "read_weekday" (top 92) ["text"]
 bj:Fn K mg "read_weekday_mark" (top 93) ["item"]
 c2:Fn K mg "read_items" (top 94) ["text","low","high","read_mark"]
 di:Fn K mg "read_days" (top 95) ["text"]
 bz:Fn K mg "read_weekdays" (top 96) ["text"]
 d8:Fn K mg "month_at" (top 35) ["kind"]
 d9:Fn K mg "times_of" (top 106) ["hours","minutes"]
 ep:Fn K mg "days_by" (top 107) ["days","weekdays","last","first"]
 cc:FnM K aJ "__init__" "Row.__init__" afW ["self","fields"]
 cm:FnM K aJ "days_in" "Row.days_in" agZ ["self","kind"]
 dj:Fn K mg "read_word" (top 109) ["word","place"]
 eq:Fn K mg "read_at" (top 110) ["word","place"]
 ea:Fn K mg "read_row" (top 111) ["text"]
 cn:FnM K aJ "shut_by" "Row.shut_by" agM ["self","moment"]
 c3:Fn K mg "next_month" (top 36) ["year","month"]
 eb:Fn K mg "month_of" (top 54) ["moment"]
 c4:Fn K mg "minutes_on" (top 52) ["days"]
 ew:Fn K mg "lowest" (top 39) ["mask"]
 b0:Fn K mg "last_shut_day" (top 47) ["row","day"]
 ec:Fn K mg "shut_end" (top 48) ["row","moment","word"]
 co:Fn K mg "add_stretch" (top 46) ["stretches","first","last","told"]
 ed:Fn K mg "paper_of" (top 49) ["row","begin","end"]
 cp:FnM K aJ "on_days" "Row.on_days" agY ["self","kind"]
 c5:Fn K mg "minutes_by" (top 53) ["known","on_days","kind"]
 ee:Fn K mg "first_at" (top 55) ["on_days","moment"]
 dk:FnC K mg "next_from" (top 56) ["row","moment"] aP
 cd:Fn K mg "_law_cell_at" (top 113) ["_law_script","_law_k"]
 dl:Fn K mg "_law_stir" (top 114) ["_law_number"]
 cq:Fn K mg "_law_digits" (top 115) ["_law_cell","_law_sizes","_law_mixed"]
 dm:Fn K mg "_law_item" (top 117) ["_law_parts","_law_low","_law_high"]
 ce:Fn K mg "_law_numbers" (top 118) ["_law_cell","_law_low","_law_high","_law_mixed"]
 c6:Fn K mg "_law_start" (top 126) ["_law_year"]
 cr:Fn K mg "_law_moment" (top 131) ["_law_cell","_law_mixed"]
 dn:Fn K mg "_law_days" (top 119) ["_law_cell","_law_mixed"]
 b1:Fn K mg "_law_weekdays" (top 120) ["_law_cell","_law_mixed"]
 dp:Fn K mg "_law_near" (top 122) ["_law_day","_law_last_here","_law_first"]
 cs:Fn K mg "_law_marked" (top 123) ["_law_mark","_law_day","_law_last_here","_law_first"]
 ef:Fn K mg "_law_any" (top 124) ["_law_marks","_law_day","_law_last_here","_law_first"]
 b2:Fn K mg "_law_day_held" (top 125) ["_law_spec_here","_law_day","_law_last_here","_law_first"]
 dq:Fn K mg "_law_last" (top 127) ["_law_year","_law_month"]
 dr:Fn K mg "_law_date" (top 128) ["_law_number"]
 ds:Fn K mg "_law_told" (top 129) ["_law_spec_here","_law_number"]
 dt:Fn K mg "_law_word" (top 130) ["_law_spec_here","_law_moment_here"]
 c7:Fn K mg "_law_whole" (top 116) ["_law_found"]
 bo:Fn K mg "_law_months_shut" (top 132) ["_law_spec_here","_law_first","_law_last_here"]
 bp:Fn K mg "_law_times_shut" (top 133) ["_law_spec_here","_law_first","_law_last_here","_law_word_here","_law_strict"]
 du:Fn K mg "_law_shut" (top 134) ["_law_spec_here","_law_first","_law_last_here","_law_word_here","_law_strict"]
 b3:Fn K mg "_law_is_piece" (top 135) ["_law_thing"]
 ct:Fn K mg "_law_walked" (top 136) ["_law_spec_here","_law_begin","_law_end","_law_paper","_law_strict"]
 c8:Fn K mg "_law_never" (top 137) ["_law_spec_here"]
 dv:Fn K mg "_law_spec" (top 121) ["_law_cells","_law_mixed"]
 c9:Fn K mg "_law_right" (top 138) ["_law_spec_here","_law_moment_here","_law_found","_law_paper"]
section
set_option maxHeartbeats 4000000
variable{P:Program}{w:World}{K:FG}{mg:Str->Option Value}{base:Heap}{aI aB aE aF aH aD aA aG aJ aO aM aP aK aL a_MONTH_LASTS a_BOUNDS a_BOUNDS_0 a_BOUNDS_1 a_BOUNDS_3:Addr}{t_ROUND_DAYS t_ROUND_YEARS t_LONG_PLACE t_DAY_MINUTES t_HOUR_MINUTES t_FIGURES t_MOST_STRIDE t_MOST_SIGNS t_MOST_ITEMS t_SATURDAY t_SUNDAY t_MOST_BACK t_MOST_DAY t_SUNDAY_TOO t_MOST_NTH t_MOST_MARKS t_ALL_WEEKDAYS t_LONG_LAST t_SHORT_YEAR t_MINUTE t_HOUR t_DAY t_MONTH t_WEEKDAY t_MOST_ROW_SIGNS t_NO_PLACE t_MOST_MONTHS:Tok}(ZZ:Fs K mg aI aB aE aF aH aD aA aG aJ aO aM aP aK aL a_MONTH_LASTS a_BOUNDS a_BOUNDS_0 a_BOUNDS_1 a_BOUNDS_3 t_ROUND_DAYS t_ROUND_YEARS t_LONG_PLACE t_DAY_MINUTES t_HOUR_MINUTES t_FIGURES t_MOST_STRIDE t_MOST_SIGNS t_MOST_ITEMS t_SATURDAY t_SUNDAY t_MOST_BACK t_MOST_DAY t_SUNDAY_TOO t_MOST_NTH t_MOST_MARKS t_ALL_WEEKDAYS t_LONG_LAST t_SHORT_YEAR t_MINUTE t_HOUR t_DAY t_MONTH t_WEEKDAY t_MOST_ROW_SIGNS t_NO_PLACE t_MOST_MONTHS)
include ZZ
theorem anD:Dx P w base ZZ.eh 1 (av5 K):=by
 refine ZZ.eh.dfs awG (by trivial) ?_;rintro _ _ _ _ s H _ Q E hr⟨y,rfl,q⟩;refine⟨_,(ss1 (aaH (ahO (acD oEq (eOp abD Y0 eI) eI) (ae4 (eOr (acD oNe (eOp abD Y0 eI) eI) (ae4 (acD oEq (eOp abD Y0 eI) eI))))))),?_⟩;refine⟨(),(()),(by show (0:Int)<4;decide),rfl,(),?_⟩;refine ifI (λc1=>?_) (λc1=>?_)
 ·refine⟨(),(()),(by show (0:Int)<100;decide),rfl,(),?_⟩;refine azQ (λc2=>?_) (λc2=>?_)
  ·rw[asE ⟨c1,.inl c2⟩] at q;exact q
  ·refine⟨(),(()),(by show (0:Int)<400;decide),rfl,?_⟩;by_cases c3:y%400=0
   ·rw[asE ⟨c1,.inr c3⟩] at q;show Q (.bl (decide (V.int (y%400)=V.int 0))) H;rw[eZ (int_eq.mpr c3)];exact q
   ·rw[as4 ⋯] at q;show Q (.bl (decide (V.int (y%400)=V.int 0))) H;rw[fC λe=>c3 (int_eq.mp e)];exact q
 ·rw[as4 ⋯] at q;exact q
theorem ab0:Dx P w base ZZ.bl 1 (agJ K):=by
 refine ZZ.bl.dfs agG (by trivial) ?_;rintro _ _ _ _ s H _ Q E hr⟨y,z,rfl,hz,q⟩;refine⟨_,(ss1 (aaH (eOp acM (eOp aa7 (eOp aaM Y0 Y1) eI) Y1))),?_⟩;refine⟨(),(),(()),(()),(),(()),hz,?_⟩;exact q
theorem ac2:Dx P w base ZZ.cj 2 (amP K):=by
 refine ZZ.cj.dfs Ut (by trivial) ?_;rintro _ _ _ _ s H _ Q E hr⟨y,rfl,q⟩;refine⟨_,(ssL (aaI 1 (eOp aaM (eOp aa7 (eD (ab0 ZZ) hr (A2 Y0 eI)) (eD (ab0 ZZ) hr (A2 Y0 eI))) (eD (ab0 ZZ) hr (A2 Y0 eI))) Ut.nd) (ss1 (aaH (eOp aaM (eOp acL eI Y0) Y1)))),?_⟩;extract_lets;refine⟨(),_,(),⟨by decide,by decide⟩,(),_,(),⟨by decide,by decide⟩,(()),(),_,(),⟨by decide,by decide⟩,(()),?_⟩;refine⟨(),(()),.inl ⟨by decide,by decide⟩,(),(()),?_⟩
 exact q
theorem ac6:Dx P w base ZZ.ei 2 (av3 K):=by
 refine ZZ.ei.dfs avI (by trivial) ?_;rintro _ _ _ _ s H _ Q E hr⟨y,m,rfl,⟨h1,h2⟩,q⟩;refine⟨_,(ssL (sIf (tW (ajW (tCm oEq Y1 eI) (aeM (tVa (eD (anD ZZ) hr (A1 Y0)))))) (ss1 (aaH eI)) ssN) (ss1 (aaH (eIx (xTc (K:=K)) (eGl (v:=.ref a_MONTH_LASTS) ZZ.cf rfl) (eOp aa7 Y1 eI))))),?_⟩;extract_lets;refine⟨(),rfl,(),?_⟩;refine ifI (λc1=>?_) (λc1=>?_)
 ·refine⟨(),(),(),?_⟩;by_cases c2:aa2 y=true
  ·have e:aaF y m=29:=by unfold aaF ab3;rw[if_pos c1,if_pos c2];rfl
   rw[e] at q;show if aa2 y=true then _ else _
   rw[if_pos c2];exact q
  ·have e:aaF y m=lasts.getD (m-1).toNat 0:=by unfold aaF ab3;rw[if_pos c1,if_neg c2,c1];rfl
   rw[e] at q;show if aa2 y=true then _ else _
   rw[if_neg c2];refine⟨(),(()),a_MONTH_LASTS,_,(()),ZZ.a6 H,ah5 h1 h2,?_⟩;exact q
 ·have e:aaF y m=lasts.getD (m-1).toNat 0:=by unfold aaF;rw[if_neg c1]
  rw[e] at q;refine aaU ?_;refine⟨(),(()),a_MONTH_LASTS,_,(()),ZZ.a6 H,ah5 h1 h2,?_⟩;exact q
theorem af0:Dx P w base ZZ.d2 1 (asO K):=by
 refine ZZ.d2.dfs auX (by trivial) ?_;rintro _ _ _ _ s H _ Q E hr⟨i,rfl,q⟩;refine⟨_,(ss1 (aaH (ahO (eCB cII ZZ.ab PyProof.Rows.boot_isinstance (A2 Y0 (eTy ZZ.a7 PyProof.Rows.boot_int))) (ae4 (aNX (eCB cIB ZZ.ab PyProof.Rows.boot_isinstance (A2 Y0 (eTy ZZ.cx PyProof.Rows.boot_bool)))))))),?_⟩;refine⟨(),(),(),?_⟩;refine aa4 ?_;refine⟨(),(),(),?_⟩;exact q
theorem au5:Dx P w base ZZ.ej 3 (avK K):=by
 refine ZZ.ej.dfs au9 (by trivial) ?_;rintro _ _ _ _ s H _ Q E hr⟨y,m,k,rfl,⟨hm,k1,k2⟩,q⟩;refine⟨_,(ssL (sIf (tNo (tW (ajW (tVa (eD (af0 ZZ) hr (A1 Y0))) (ajW (tVa (eD (af0 ZZ) hr (A1 Y1))) (aeM (tVa (eD (af0 ZZ) hr (A1 Y2)))))))) (ss1 (aaH eB)) ssN) (ss1 (aaH (ahO (eCh oLe oLe eI Y1 eI) (ae4 (eCh oLe oLe eI Y2 (eD (ac6 ZZ) hr (A2 Y0 Y1)))))))),?_⟩;extract_lets;refine⟨(),(),(),aa4 ⟨(),(),(),aa4 ⟨(),(),(),aaU ?_⟩⟩⟩
 refine⟨(),(()),(),?_⟩;rw[eZ hm.1];refine aa4 ⟨(()),(),?_⟩;rw[eZ hm.2];refine aa4 ⟨(),(()),(),?_⟩;rw[eZ k1];refine aa4 ⟨(),(),_,(),hm,(()),?_⟩;show Q (.bl (decide (k<=aaF y m))) H;rw[eZ k2];exact q
theorem apM:Dx P w base ZZ.eu 4 (ay3 K):=by
 refine ZZ.eu.dfs Us (by trivial) ?_;rintro _ _ _ _ s H _ Q E hr⟨y,m,k,rfl,hv,q⟩;refine⟨_,(ssL (sIf (tNo (tVa (eD (au5 ZZ) hr (A3 Y0 Y1 Y2)))) (ss1 arC) ssN) (ssL (aaI 3 (eCB cSum ZZ.e0 PyProof.Rows.boot_sum (A1 (ajR ["year"] [0] (iR2 ZZ.aa (A2 eI Y1)) (λ_ _ _ _ _ _=>fsN) (λ_ _ _ _ _ _=>(eD (ac6 ZZ) hr (A2 Y1 Y0)))))) Us.nd) (ss1 (aaH (eOp aa7 (eOp aaM (eOp aaM (eD (ac2 ZZ) hr (A1 Y0)) Y3) Y2) eI))))),?_⟩
 extract_lets;obtain⟨⟨hm1,hm2⟩,hk⟩:=id hv;refine⟨(),(),(),_,_,(),hv,(),aaU ?_⟩;refine⟨(),_,(),⟨by decide,by decide,⋯,⋯⟩,adE (λi l=>l=(List.range i).map λi:Nat=>V.int (aaF y (1+(i:Int)))) (by show (m-1).toNat<=sizeLine;rw[eU];omega) rfl ?_ ?_⟩
 ·intro i l D H2 E' F' hi hR hD s2 hl hE hF;subst hR;exact⟨(),(),_,(),⟨⋯,⋯⟩,hE _ _ (Same.refl _) (ao8 _ _).symm⟩
 ·intro D H2 l hR hD s2 hl;subst hR;refine⟨D,(List.range (m-1).toNat).map λi:Nat=>aaF y (1+(i:Int)),rfl,SqL.of (by rw[hl,bY];rfl),?_⟩;refine⟨(),(),(),(()),(),(()),(()),?_⟩;have e:((List.range (m-1).toNat).map λi:Nat=>aaF y (1+(i:Int))).sum=ahead y m:=aw9 y _;rw[e];exact q _ s2
theorem av4:Dx P w base ZZ.ek 3 (awB K):=by
 refine ZZ.ek.dfs UV (by trivial) ?_;rintro _ _ _ _ s H _ Q E hr⟨d,rfl,q⟩;refine⟨_,(ssL (aaI 1 (eOp aaM (eOp acL (eOp acM Y0 (eGl (v:=.int 146097) ZZ.a8 ⟨()⟩)) (eGl (v:=.int 400) ZZ.cg ⟨()⟩)) (eOp acM (eOp abD Y0 (eGl (v:=.int 146097) ZZ.a8 ⟨()⟩)) eI)) UV.nd) (ssL (sWh (tCm oLe (eD (ac2 ZZ) hr (A1 (eOp aaM Y1 eI))) Y0) (ss1 (aaI 1 (eOp aaM Y1 eI) UV.nd)) PassesOwn.never) (ss1 (aaH Y1)))),?_⟩;extract_lets
 refine⟨(),(()),⟨by decide,by decide⟩,(()),.inr ⟨by decide,by decide⟩,(),(()),(by show (0:Int)<146097;decide),(()),⟨by decide,by decide⟩,(()),?_⟩;refine acG (λσ H'=>H'=H/\∃y:Int,σ=[some (.int d),some (.int y)]/\db y<=d) (λσ _=>(d-db (iv σ 1)).toNat) ?_ ?_
 ·refine⟨rfl,(),?_⟩;have h1:=aJ6 (q:=d / 146097) (z:=d%146097 / 366) ⋯;omega
 ·rintro σ H' ⟨rfl,y,rfl,hy⟩;refine⟨(),(()),(),(),(()),(),?_⟩;refine ifD (λc=>?_) (λc=>?_)
  ·refine⟨_,λ_ _ h=>h,?_⟩;refine⟨(),(()),?_⟩;have h1:=aeA y;have h2:=afF y;exact⟨_,(by show (d-db (y+1)).toNat<(d-db y).toNat;omega),rfl,rfl,(),c⟩
  ·exact⟨(),q y hy ⋯⟩
theorem ag3:Dx P w base ZZ.el 4 (avB K):=by
 refine ZZ.el.dfs Ur (by trivial) ?_;rintro _ _ _ _ s H _ Q E hr⟨d,rfl,q⟩;refine⟨_,(ssL (aaI 1 (eD (av4 ZZ) hr (A1 Y0)) Ur.nd) (ssL (aaI 2 eI Ur.nd) (ssL (aaI 3 (eOp aa7 Y0 (eD (ac2 ZZ) hr (A1 Y1))) Ur.nd) (ssL (sWh (tCm oGe Y3 (eD (ac6 ZZ) hr (A2 Y1 Y2))) (ssL (aaI 3 (eOp aa7 Y3 (eD (ac6 ZZ) hr (A2 Y1 Y2))) Ur.nd) (ss1 (aaI 2 (eOp aaM Y2 eI) Ur.nd))) PassesOwn.never) (ss1 (aaH (abE (A3 Y1 Y2 (eOp aaM Y3 eI))))))))),?_⟩
 extract_lets;refine⟨(),(),λy hy1 hy2=>?_⟩;refine⟨(),(),(),(()),?_⟩;refine acG (λσ H'=>H'=H/\∃m r:Int,σ=[some (.int d),some (.int y),some (.int m),some (.int r)]/\(1<=m/\m<=12)/\0<=r/\db y+ahead y m+r=d) (λσ _=>(13-(iv σ 2)).toNat) ?_ ?_
 ·have a4:ahead y 1=0:=rfl;exact⟨rfl,1,(),⟨by decide,by decide⟩,⋯,⋯⟩
 ·rintro σ H' ⟨rfl,m,r,rfl,hm,hr0,he⟩;refine⟨(),(),(),_,(),hm,(()),(),?_⟩;have a1:=adD (y:=y) hm.1;refine ifD (λc=>?_) (λc=>?_)
  ·have a2:=aiF y;have a3:=aeA y;have hm12:m<12:=by
    rcases b9 m 12 with z | z
    ·exact z
    ·have e12:m=12:=⋯;subst e12;have a5:ahead y (12+1)=ahead y 13:=rfl;omega
   refine⟨_,λ_ _ h=>h,?_⟩;refine⟨(),(),(),_,(),hm,(()),?_⟩;refine⟨(),(()),?_⟩;exact⟨_,(by show (13-(m+1)).toNat<(13-m).toNat;omega),rfl,rfl,m+1,r-aaF y m,rfl,⟨⋯,⋯⟩,⋯,⋯⟩
  ·refine⟨(),(),(),(()),(zL 3),λp hp=>?_⟩;exact q y m (r+1) p _ ⟨hm,⋯,⋯⟩ (by unfold abY;omega) (aaB hp _) aaA
theorem awC:Dx P w base ZZ.em 1 (avF K):=by
 refine ZZ.em.dfs avQ (by trivial) ?_;rintro _ _ _ _ s H _ Q E hr⟨d,rfl,q⟩;refine⟨_,(ss1 (aaH (eOp abD (eOp aaM Y0 eI) eI))),?_⟩;exact⟨(),(()),(()),(by show (0:Int)<7;decide),q⟩
theorem apU:Dx P w base ZZ.dc 2 (arL K):=by
 refine ZZ.dc.dfs Uw (by trivial) ?_;rintro _ _ _ _ s H _ Q E hr⟨y,m,d,rfl,q⟩;refine⟨_,(ssL (aaI 3 (eIf (tW (ajW (tCm oEq Y1 eI) (aeM (tVa (eD (anD ZZ) hr (A1 Y0)))))) (eGl (v:=.int 12) ZZ.a9 ⟨()⟩) (eOp aa7 Y1 eI)) Uw.nd) (ss1 (aaH (eOp aaM (eOp acL eI Y3) (eD (awC ZZ) hr (A1 Y2)))))),?_⟩;extract_lets;have q':∀pl:Int,plc y m=pl->Q (.int (7*pl+(d+6)%7)) H:=λpl e=>by
  rw[←e];exact q
 refine⟨(),rfl,(),?_⟩;refine ifI (λc1=>⟨(),(),(),?_⟩) (λc1=>aaU ?_)
 ·by_cases c2:aa2 y=true
  ·show if aa2 y=true then _ else _
   rw[if_pos c2];exact⟨(),(()),.inl ⟨by decide,by decide⟩,(),(),(()),q' _ (by unfold plc;rw[if_pos ⟨c1,c2⟩])⟩
  ·show if aa2 y=true then _ else _
   rw[if_neg c2];exact⟨(),(()),(),(()),.inl ⟨by decide,by decide⟩,(),(),(()),q' _ (by unfold plc;rw[if_neg λz=>c2 z.2])⟩
 ·exact⟨(),(()),(),(()),.inl ⟨by decide,by decide⟩,(),(),(()),q' _ (by unfold plc;rw[if_neg λz=>c1 z.1])⟩
theorem ahC:Dx P w base ZZ.en 5 (au6 K):=by
 refine ZZ.en.dfs avP (by trivial) ?_;rintro _ _ _ _ s H _ Q E hr⟨y,m,rfl,hm,q⟩;refine⟨_,(ss1 (aaH (eD (apU ZZ) hr (A3 Y0 Y1 (eD (apM ZZ) hr (A3 Y0 Y1 eI)))))),?_⟩;have hl1:1<=aaF y m:=by have:=apO (y:=y) hm.1 hm.2;omega
 have e6:db y+ahead y m+1-1+6=db y+ahead y m+6:=⋯;refine⟨(),(),(),(),_,_,(),⟨hm,by decide,hl1⟩,λH' s'=>⟨_,_,(),?_⟩⟩;rw[e6];exact q H' s'
theorem ayV:Dx P w base ZZ.ev 1 (azK K):=by
 refine ZZ.ev.dfs UG (by trivial) ?_;rintro _ _ _ _ s H _ Q E hr⟨mo,rfl,q⟩;refine⟨_,(ssL (aaI 1 (eOp abD Y0 (eGl (v:=.int 1440) ZZ.ad ⟨()⟩)) UG.nd) (ss1 (aaH (abE (A3 (eOp acM Y0 (eGl (v:=.int 1440) ZZ.ad ⟨()⟩)) (eOp acM Y1 (eGl (v:=.int 60) ZZ.af ⟨()⟩)) (eOp abD Y1 (eGl (v:=.int 60) ZZ.af ⟨()⟩))))))),?_⟩;extract_lets;refine⟨(),(()),(by show (0:Int)<1440;decide),?_⟩;exact⟨(),(()),⟨by decide,by decide⟩,(),(()),⟨by decide,by decide⟩,(),(()),(by show (0:Int)<60;decide),(zL 3),λp hp=>q p _ (aaB hp _) aaA⟩
theorem alU:Dx P w base ZZ.ck 1 (am3 K):=by
 refine ZZ.ck.dfs al4 (by trivial) ?_;rintro _ _ _ _ s H _ Q E hr⟨l,rfl,hl,q⟩;refine⟨_,(ss1 (aaH (ahO (acD oNe Y0 (eSx [])) (ae4 (eCB cAll ZZ.e1 boot_all (A1 (ajR [] [] (iX Y0) (λ_ _ _ _ _ _=>fsN) (λ_ _ _ _ _ _=>(acD oInX Y0 (eGl (v:=.str (Tx [48,49,50,51,52,53,54,55,56,57])) ZZ.eg ⟨()⟩)))))))))),?_⟩;refine⟨(),rfl,(),?_⟩;rw[aC9 l []];by_cases c:l=[]
 ·rw[eZ c];have e:aqY l=false:=by unfold aqY;rw[eZ c];rfl
  rw[e] at q;exact aaU (q H (Same.refl H))
 ·rw[fC c];have e:aqY l=l.all ae8:=by unfold aqY;rw[fC c];rfl
  rw[e] at q;refine aa4 ⟨(),Tx l,rfl,aDI (xs:=l) (λi z=>z=((l.take i).map ae8).map V.bl) (by rw[eU];omega) rfl ?_ ?_⟩
  ·intro i ch z D H2 E' F' hv hR hD s2 hz hE hF;subst hR;refine⟨(),ch,aEF,rfl,rfl,?_⟩;rw[aBO];exact hE _ _ (Same.refl _) (by rw[b8,hv,bB,bB];rfl)
  ·intro D H2 z hR hD s2 hz;subst hR;rw[cQ] at hz;refine⟨D,l.map ae8,rfl,SqL.of hz,?_⟩;rw[List.all_map];exact q H2 s2
theorem agO:Dx P w base ZZ.cy 2 (anW K):=by
 refine ZZ.cy.dfs an0 (by trivial) ?_;rintro _ _ _ _ s H _ Q E hr⟨l,rfl,hl,q⟩;refine⟨_,(ss1 (aaH (ahO (eD (alU ZZ) hr (A1 Y0)) (ae4 (eOr (acD oEq Y0 (eSx [48])) (ae4 (acD oNe (eIx xX Y0 eI) (eSx [48])))))))),?_⟩;refine⟨(),l,rfl,hl,λH1 s1=>⟨(),?_⟩⟩;refine if2 (λc=>?_) (λc=>?_)
 ·have hne:l≠[]:=λe=>by
   unfold aqY at c;rw[eZ e] at c;exact absurd (show false=true from c) a8
  refine⟨(),rfl,(),?_⟩;rw[aC9 l [48]];by_cases c2:l=[48]
  ·rw[eZ c2];have e:isW l=true:=by unfold isW;rw[c,eZ c2];rfl
   rw[e] at q;exact aa4 (q H1 s1)
  ·rw[fC c2];obtain⟨x,r,rfl⟩:∃x r,l=x::r:=by
    cases l with
    |nil=>exact absurd rfl hne
    |cons x r=>exact⟨x,r,rfl⟩
   refine aaU ⟨(),x::r,0,x,rfl,rfl,(by rw[eU];omega),(show atI (x::r) ((0:Nat):Int)=some x from ahQ rfl),rfl,?_⟩;rw[aC9 [x] [48]];have e:isW (x::r)= !decide ([x]=[48]):=by
    unfold isW;rw[c,fC c2];show (!decide (x=48))=_;rw[decide_eq_decide.mpr (show x=48↔[x]=[48] by simp)]
   rw[e] at q;exact q H1 s1
 ·have e:isW l=false:=by unfold isW;rw[c];rfl
  rw[e] at q;exact q H1 s1
theorem ahD:Dx P w base ZZ.e4 1 (aKU K):=by
 refine ZZ.e4.dfs aIC (by trivial) ?_;rintro _ _ _ _ s H _ Q E hr⟨m,n,rfl,h0,q⟩;refine⟨_,(ss1 (aaH (acD oEq (eOp aDT (eOp aBV Y0 Y1) eI) eI))),?_⟩;refine⟨(),(),(()),h0.2,(()),rfl,?_⟩;have e:decide (V.int (Builtin.bitAnd (m / 2^n.toNat) 1)=V.int 1)=tb m n.toNat:=by
  rw[←aFO h0.1];exact decide_eq_decide.mpr int_eq
 show Q (.bl (decide (V.int (Builtin.bitAnd (m / 2^n.toNat) 1)=V.int 1))) H;rw[e];exact q
theorem awM:Dx P w base ZZ.eo 1 (avJ K):=by
 refine ZZ.eo.dfs Uz (by trivial) ?_;rintro _ _ _ _ s H _ Q E hr⟨a,zs,rfl,hS,hz,q⟩;refine⟨_,(ssL (aaI 1 eI Uz.nd) (ssL (acZ (iLc (K:=K) Y0) (gN 2 Uz.nd) (ss1 (aaI 1 (eOp oOr Y1 (eOp an3 eI Y2)) Uz.nd)) PassesOwn.never) (ss1 (aaH Y1)))),?_⟩;extract_lets;refine⟨(),a,rfl,⟨_,hS⟩,ab7 (K:=K) (a:=a) (xs:=zs.map V.int) (λi σ H2=>H2=H/\∃u:Option V,σ=[some (.ref a),some (.int (aaG (zs.take i))),u]) ⟨rfl,()⟩ (λi σ H2 _ hP=>by rw[hP.1];exact hS) ?_ ?_⟩
 ·rintro i x σ H2 hx ⟨rfl,u,rfl⟩;rw[bC] at hx;cases ez:zs[i]? with
  |none=>rw[ez] at hx;cases hx
  |some z=>
   rw[ez] at hx;obtain rfl:V.int z=x:=aZ hx;have h:=hz z (bU ez);have et:aaG (zs.take (i+1))=Builtin.bitOr (aaG (zs.take i)) (1*2^z.toNat):=by
    rw[b8,ez,←amV];rfl
   exact⟨(),(),(()),⟨h.1,⋯,by decide⟩,(()),rfl,_,by rw[et];rfl⟩
 ·rintro σ H2 ⟨rfl,u,rfl⟩;rw[aR,cQ];exact⟨(),q⟩
theorem aoE:Dx P w base ZZ.cz 2 (anX K):=by
 refine ZZ.cz.dfs anT (by trivial) ?_;rintro _ _ _ _ s H _ Q E hr⟨m,rfl,hm,q⟩;refine⟨_,(ss1 (aaH (ajR ["mask"] [0] (iR1 ZZ.aa (A1 (eBL Y0))) (λ_ _ _ _ _ _=>(fs1 (tVa (eD (ahD ZZ) hr (A2 Y1 Y0))))) (λ_ _ _ _ _ _=>Y0)))),?_⟩;refine⟨(),rfl,(),rfl,(),⋯,⋯,adE (λi z=>z=(flt (tb m) 0 i).map V.int) (by rw[eU,bP];omega) aFJ ?_ ?_⟩
 ·intro i z D H2 E' F' hi hR hD s2 hz hE hF;subst hR;refine⟨(),(),_,(),⟨hm.1,⋯⟩,(),?_⟩;have e0:(0+(i:Int)).toNat=i:=⋯;show if tb m (0+(i:Int)).toNat=true then _ else _
  rw[e0];by_cases c:tb m i=true
  ·rw[if_pos c];exact⟨(),hE _ _ (Same.refl _) (by rw[apT c,bB];rfl)⟩
  ·rw[if_neg c];exact hF _ (Same.refl _) (by rw[aq9 (by simpa using c)])
 ·intro D H2 z hR hD s2 hz;subst hR;rw[bP] at hz;exact q D H2 s2 hz
theorem akS:Dx P w base ZZ.d3 2 (atD K):=by
 refine ZZ.d3.dfs atU (by trivial) ?_;rintro _ _ _ _ s H _ Q E hr⟨a,b,st,rfl,ha,hb,hs,q⟩;refine⟨_,(ss1 (aaH (eD (awM ZZ) hr (A1 (eCT cLR ZZ.an PyProof.Rows.boot_list (A1 (eCT aEG ZZ.aa fA (A3 Y0 (eOp aaM Y1 eI) Y2)))))))),?_⟩;obtain⟨n1,n2⟩:=aeG ha.1 hb.2 hs.1;have bd:∀z∈adS a b st,0<=z/\z<=100000:=λz hz=>by
  have:=(aqG hs.1).mp hz;omega
 refine⟨(),(),(()),(),_,_,(),⟨hs.1,⋯⟩,λp hp=>⟨p,a,b+1,st,(Builtin.Range.rangeSize a (b+1) st).toNat,rfl,aaA,ad1 ha.1 ha.2 hb.1 hb.2 hs.1 hs.2,n2,⋯,λl hl=>⟨l,adS a b st,rfl,SqL.of (by rw[acY,bY];exact aaA),bd,?_⟩⟩⟩;exact q _ ((aaB hp _).trans (aaB hl _))
theorem abM:Dx P w base ZZ.cl 3 (am0 K):=by
 refine ZZ.cl.dfs UM (by trivial) ?_;rintro _ _ _ _ s H _ Q E hr⟨l,lo,hi,rfl,hl,q⟩;refine⟨_,(ssL (sIf (tNo (tVa (eD (agO ZZ) hr (A1 Y0)))) (ss1 (aaH eN)) ssN) (ssL (aaI 3 (eCT aN5 ZZ.a7 PyProof.Rows.boot_int (A1 Y0)) UM.nd) (ssL (sIf (tCh oLe oLe Y1 Y3 Y2) (ss1 (aaH Y3)) ssN) (ss1 (aaH eN))))),?_⟩;extract_lets;refine⟨(),l,rfl,⋯,λH1 s1=>⟨(),?_⟩⟩;by_cases c:isW l=true
 ·rw[c];obtain⟨d1,d2⟩:=av9 c;refine aaU ⟨(),l,rfl,d1,d2,⋯,?_⟩;refine⟨(),(),(()),(),?_⟩;show if decide (lo<=dv l)=true then _ else _
  refine ifD (λc1=>⟨(),(()),(),?_⟩) (λc1=>⟨(),?_⟩)
  ·show if decide (dv l<=hi)=true then _ else _
   refine ifD (λc2=>?_) (λc2=>?_)
   ·have e:aaW lo hi l=some (dv l):=by unfold aaW;rw[if_pos c,if_pos ⟨c1,c2⟩]
    rw[e] at q;exact⟨(),q H1 s1⟩
   ·have e:aaW lo hi l=none:=by unfold aaW;rw[if_pos c,if_neg λz=>c2 z.2]
    rw[e] at q;exact q H1 s1
  ·have e:aaW lo hi l=none:=by unfold aaW;rw[if_pos c,if_neg λz=>c1 z.1]
   rw[e] at q;exact aaU (q H1 s1)
 ·have c':isW l=false:=by simpa using c
  rw[c'];have e:aaW lo hi l=none:=by unfold aaW;rw[if_neg c]
  rw[e] at q;exact aa4 (q H1 s1)
theorem aj2:Dx P w base ZZ.d4 4 (as3 K):=by
 refine ZZ.d4.dfs UO (by trivial) ?_;rintro _ _ _ _ s H _ Q E hr⟨l,lo,hi,rfl,hl,q⟩;refine⟨_,(ssL (sIf (tCm oEq Y0 (eSx [42])) (ss1 (aaH (abE (A2 Y1 Y2)))) ssN) (ssL (aBH 3 ["low","high"] [1,2] (iLc (K:=K) (az5 Y0 (eSx [45]))) (λ_ _ _ _ _ _=>fsN) (λ_ _ _ _ _ _=>(eD (abM ZZ) hr (A3 Y0 Y1 Y2))) UO.nd) (ssL (sIf (tW (wOr (tCm oGt (eCB (afA (K:=K)) ZZ.ag PySem.boot_len (A1 Y3)) eI) (wOr (tCm (auU (K:=K)) eN Y3) (ae9 (tCm oGt (eIx (xLc (K:=K)) Y3 eI) (eIx (xLc (K:=K)) Y3 (eUn asK eI))))))) (ss1 (aaH eN)) ssN) (ss1 (aaH (abE (A2 (eIx (xLc (K:=K)) Y3 eI) (eIx (xLc (K:=K)) Y3 (eUn asK eI))))))))),?_⟩
 extract_lets;refine⟨(),rfl,(),?_⟩;rw[aC9 l [42]];by_cases c:l=[42]
 ·rw[eZ c];refine aa4 ⟨(),(),(zL 2),λp hp=>?_⟩;have e:aa0 lo hi l=some (lo,hi):=by unfold aa0;rw[if_pos c]
  rw[e] at q;exact q _ _ (aaB hp _) ⟨p,rfl,aaA⟩
 rw[fC c];have hsl:=aiE 45 l;have eR:aa0 lo hi l=akO ((spl 45 l).map (aaW lo hi)):=by unfold aa0;rw[if_neg c]
 rw[eR] at q;refine aaU ⟨(),rfl,l,45,rfl,rfl,(by rw[eU];omega),λps hps=>⟨ps,rfl,⟨_,SqL.of aaA⟩,aoM (xs:=(spl 45 l).map λq=>V.str (Tx q)) (λi z=>z=((spl 45 l).take i).map λq=>oV (aaW lo hi q)) (by rw[aR,eU];omega) rfl (SqL.of aaA) ?_ ?_⟩⟩
 ·intro i v z D H2 E' F' hv hR hD s2 hz hE hF;subst hR;rw[bC] at hv;cases ew:(spl 45 l)[i]? with
  |none=>rw[ew] at hv;cases hv
  |some w0=>
   rw[ew] at hv;obtain rfl:V.str (Tx w0)=v:=aZ hv;have hw:=ab2 45 l w0 (bU ew);exact⟨(),(),(),w0,lo,hi,rfl,⋯,λH3 s3=>hE _ _ s3 (by rw[b8,ew,bB];rfl)⟩
 intro D H2 z hR hD s2 hz;subst hR;rw[aR,cQ] at hz;have hz2:H2 D=some (.lst (((spl 45 l).map (aaW lo hi)).map oV)):=by rw[hz,bY];rfl
 have hlen:((spl 45 l).map (aaW lo hi)).length<=600:=by rw[aR];omega
 have hnn:(spl 45 l).map (aaW lo hi)≠[]:=λe=>aJC 45 l (List.map_eq_nil_iff.mp e);generalize (spl 45 l).map (aaW lo hi)=es at hz2 q hlen hnn;have s02:Same H H2:=(aaB hps _).trans s2;have hfl:(es.map oV).all afD=true:=aEX es;refine⟨(),D,(),.inl (SqL.of hz2),(()),(),?_⟩
 match es,hnn with
 |[],h=>exact absurd rfl h
 |[none],_=>
  refine aaU ⟨(),D,(),.inl (SqL.of hz2),rfl,hfl,(),aa4 ?_⟩;exact q _ _ s02 rfl
 |[some a],_=>
  refine aaU ⟨(),D,(),.inl (SqL.of hz2),rfl,hfl,(),aaU ⟨(),D,_,(()),SqL.of hz2,rfl,(),(),D,_,(()),SqL.of hz2,rfl,(()),(),?_⟩⟩;rw[fC (show ¬a<a by omega)];refine aaU ⟨(),D,_,(()),SqL.of hz2,rfl,(),(),D,_,(()),SqL.of hz2,rfl,(zL 2),λp hp=>?_⟩;exact q _ _ (s02.trans (aaB hp _)) ⟨p,rfl,aaA⟩
 |[none,y],_=>
  refine aaU ⟨(),D,(),.inl (SqL.of hz2),rfl,hfl,(),aa4 ?_⟩;exact q _ _ s02 rfl
 |[some a,none],_=>
  refine aaU ⟨(),D,(),.inl (SqL.of hz2),rfl,hfl,(),aa4 ?_⟩;exact q _ _ s02 rfl
 |[some a,some b],_=>
  refine aaU ⟨(),D,(),.inl (SqL.of hz2),rfl,hfl,(),aaU ⟨(),D,_,(()),SqL.of hz2,rfl,(),(),D,_,(()),SqL.of hz2,rfl,(()),(),?_⟩⟩;refine ifD (λc2=>?_) (λc2=>?_)
  ·have e:akO [some a,some b]=none:=by show (if b<a then none else some (a,b))=none;rw[if_pos c2]
   rw[e] at q;exact q _ _ s02 rfl
  ·have e:akO [some a,some b]=some (a,b):=by show (if b<a then none else some (a,b))=some (a,b);rw[if_neg c2]
   rw[e] at q;refine⟨(),D,_,(()),SqL.of hz2,rfl,(),(),D,_,(()),SqL.of hz2,rfl,(zL 2),λp hp=>?_⟩;exact q _ _ (s02.trans (aaB hp _)) ⟨p,rfl,aaA⟩
 |x::y::u::r,_=>
  have e3:decide ((2:Int)<(((x::y::u::r).map oV).length:Nat))=true:=eZ (by rw[aR];show (2:Int)<((r.length+1+1+1:Nat):Int);omega);refine ifT e3 ?_;have e:akO (x::y::u::r)=none:=by cases x<;>cases y<;>rfl
  rw[e] at q;exact q _ _ s02 rfl
theorem ak2:Dx P w base ZZ.b6 5 (ak1 K):=by
 refine ZZ.b6.dfs UP (by trivial) ?_;rintro _ _ _ _ s H _ Q E hr⟨r,st,lo,hi,rfl,hr1,hs1,hb,q⟩;refine⟨_,(ssL (aaI 4 (eD (aj2 ZZ) hr (A3 Y0 Y2 Y3)) UP.nd) (ssL (aaI 5 (eD (abM ZZ) hr (A3 Y1 eI (eGl (v:=.int 99) ZZ.ch ⟨()⟩))) UP.nd) (ssL (sIf (tW (wOr (tCm aeI Y4 eN) (ae9 (tCm aeI Y5 eN)))) (ss1 (aaH eN)) ssN) (ssL (aaI 6 (eIf (tVa (eD (agO ZZ) hr (A1 Y0))) Y3 (eIx (xTc (K:=K)) Y4 eI)) UP.nd) (ss1 (aaH (eD (akS ZZ) hr (A3 (eIx (xTc (K:=K)) Y4 eI) Y6 Y5)))))))),?_⟩
 extract_lets;refine⟨(),(),(),r,lo,hi,rfl,⋯,λrv H1 s1 hrv=>?_⟩;refine⟨(),st,1,99,rfl,⋯,λH2 s2=>?_⟩;cases er:aa0 lo hi r with
 |none=>
  rw[er] at hrv;have hrv:rv=.non:=hrv;subst hrv;have e:abZ lo hi r st=none:=by unfold abZ;rw[er]
  rw[e] at q;exact⟨(),rfl,(),aa4 (q H2 (s1.trans s2))⟩
 |some ab=>
  obtain⟨a,b⟩:=ab;rw[er] at hrv;obtain⟨p,rfl,hp⟩:=hrv;have bd:=anH hb.2.1 er;refine⟨(),rfl,(),ifF rfl ⟨(),rfl,(),?_⟩⟩;cases es:aaW 1 99 st with
  |none=>
   have e:abZ lo hi r st=none:=by unfold abZ;rw[er,es]
   rw[e] at q;exact ifT rfl (q H2 (s1.trans s2))
  |some sv=>
   have bs:=atM es;have hp2:=s2 _ _ hp;refine ifF rfl ⟨(),r,rfl,⋯,λH3 s3=>⟨(),?_⟩⟩;have hp3:=s3 _ _ hp2;refine if2 (λc=>?_) (λc=>?_)
   ·have e:abZ lo hi r st=some (alC a hi sv):=by unfold abZ;rw[er,es];show some (alC a (if isW r=true then hi else b) sv)=_;rw[if_pos c]
    rw[e] at q;refine⟨(),(),p,_,(()),SqT.of hp3,rfl,(),(),a,hi,sv,rfl,⟨⋯,⋯⟩,⟨⋯,⋯⟩,⟨⋯,⋯⟩,λH4 s4=>?_⟩;exact q H4 (s1.trans (s2.trans (s3.trans s4)))
   ·have e:abZ lo hi r st=some (alC a b sv):=by unfold abZ;rw[er,es];show some (alC a (if isW r=true then hi else b) sv)=_;rw[if_neg (by rw[c];exact a8)]
    rw[e] at q;refine⟨(),p,_,(()),SqT.of hp3,rfl,(),p,_,(()),SqT.of hp3,rfl,(),(),a,b,sv,rfl,⟨⋯,⋯⟩,⟨⋯,⋯⟩,⟨⋯,⋯⟩,λH4 s4=>?_⟩;exact q H4 (s1.trans (s2.trans (s3.trans s4)))
theorem ah3:Dx P w base ZZ.dd 6 (arS K):=by
 refine ZZ.dd.dfs UK (by trivial) ?_;rintro _ _ _ _ s H _ Q E hr⟨l,lo,hi,rfl,hl,hb,q⟩;refine⟨_,(ssL (aaI 3 (az5 Y0 (eSx [47])) UK.nd) (ssL (sIf (tCm oEq (eCB (afA (K:=K)) ZZ.ag PySem.boot_len (A1 Y3)) eI) (ss1 (aaH (eD (ak2 ZZ) hr (aC (eIx (xLc (K:=K)) Y3 eI) (A3 (eIx (xLc (K:=K)) Y3 eI) Y1 Y2))))) ssN) (ssL (aaI 4 (eD (aj2 ZZ) hr (A3 Y0 Y1 Y2)) UK.nd) (ssL (sIf (tCm aeI Y4 eN) (ss1 (aaH eN)) ssN) (ss1 (aaH (eD (akS ZZ) hr (A3 (eIx (xTc (K:=K)) Y4 eI) (eIx (xTc (K:=K)) Y4 eI) eI)))))))),?_⟩
 extract_lets;have hsl:=aiE 47 l;have hml:=ab2 47 l;refine⟨(),rfl,l,47,rfl,rfl,(by rw[eU];omega),λps hps=>?_⟩;have s0:=aaB hps (.lst ((spl 47 l).map λq=>V.str (Tx q)));refine⟨(),ps,(),.inl (SqL.of aaA),rfl,(),?_⟩;have two:(∃r s,spl 47 l=[r,s])∨(∀r s,spl 47 l≠[r,s]):=by
  by_cases z:∃r s,spl 47 l=[r,s]
  ·exact .inl z
  ·exact .inr λr s e=>z ⟨r,s,e⟩
 rcases two with ⟨r,s,e2⟩ | hno
 ·have e:aaL lo hi l=abZ lo hi r s:=by unfold aaL;rw[e2]
  rw[e] at q;have h1:=hml r (by rw[e2];simp);have h2:=hml s (by rw[e2];simp);rw[e2];refine ifT rfl ⟨(),ps,_,(()),SqL.of aaA,rfl,(),ps,_,(()),SqL.of aaA,rfl,(),(),r,s,lo,hi,rfl,⋯,⋯,hb,λH1 s1=>?_⟩;exact q H1 ((aaB hps _).trans s1)
 ·have hlen:¬(spl 47 l).length=2:=λe=>by
   match h:spl 47 l,e with
   |[r,s],_=>exact hno r s h
  have e:aaL lo hi l=match aa0 lo hi l with | some (a,b)=>some (alC a b 1) | none=>none:=by
   unfold aaL;split
   ·rename_i r s h;exact absurd h (hno r s)
   ·rfl
  refine ifF (fC λz=>hlen (by have z:=V.int.inj z;rw[aR] at z;omega)) ?_;refine⟨(),(),(),l,lo,hi,rfl,⋯,λrv H1 s1 hrv=>?_⟩;cases er:aa0 lo hi l with
  |none=>
   rw[er] at hrv e;have hrv:rv=.non:=hrv;subst hrv;rw[e] at q;exact⟨(),rfl,(),aa4 (q H1 (s0.trans s1))⟩
  |some ab=>
   obtain⟨a,b⟩:=ab;rw[er] at hrv e;obtain⟨p,rfl,hp⟩:=hrv;have bd:=anH hb.2.1 er;have e:aaL lo hi l=some (alC a b 1):=e;rw[e] at q;refine⟨(),rfl,(),ifF rfl ⟨(),p,_,(()),SqT.of hp,rfl,(),p,_,(()),SqT.of hp,rfl,a,b,1,rfl,⟨⋯,⋯⟩,⟨⋯,⋯⟩,⟨by decide,by decide⟩,λH4 s4=>?_⟩⟩;exact q H4 (s0.trans (s1.trans s4))
theorem aoD:Dx P w base ZZ.c0 7 (anQ K):=by
 refine ZZ.c0.dfs UJ (by trivial) ?_;rintro _ _ _ _ s H _ Q E hr⟨l,lo,hi,rfl,hl,hb,⟨hk,hok⟩,q⟩;refine⟨_,(ssL (sIf (tW (wOr (tNo (tVa (eCB cIs ZZ.ab PyProof.Rows.boot_isinstance (A2 Y0 (eTy ZZ.ae PyProof.Rows.boot_str))))) (ae9 (tCm oGt (eCB aCY ZZ.ag PySem.boot_len (A1 Y0)) (eGl (v:=.int 300) ZZ.ba ⟨()⟩))))) (ss1 arC) ssN) (ssL (aaI 3 (az5 Y0 (eSx [44])) UJ.nd) (ssL (aaI 4 eI UJ.nd) (ssL (acZ (iE ZZ.am (eSl (azY (K:=K)) Y3 poN (poS (eGl (v:=.int 40) ZZ.aj ⟨()⟩)))) (alA (K:=K) (gsC (gN 5 UJ.nd) (gsC (gN 6 UJ.nd) gsN))) (ssL (aaI 7 (eD (ah3 ZZ) hr (A3 Y6 Y1 Y2)) UJ.nd) (ssL (sIf (tCm aeI Y7 eN) (ss1 arC) ssN) (ss1 (aaI 4 (eOp oOr Y4 Y7) UJ.nd)))) PassesOwn.never) (ssL (sIf (tCm oGt (eCB (afA (K:=K)) ZZ.ag PySem.boot_len (A1 Y3)) (eGl (v:=.int 40) ZZ.aj ⟨()⟩)) (ss1 arC) ssN) (ss1 (aaH Y4))))))),?_⟩
 extract_lets;have hml:=ab2 44 l;refine⟨(),_,.str,.str,rfl,(by decide),rfl,(),ifF rfl ⟨(),l,rfl,(by rw[eU];omega),(()),(),?_⟩⟩;rw[fC (show ¬(300:Int)<((l.length:Nat):Int) by omega)];refine aaU ⟨(),rfl,l,44,rfl,rfl,(by rw[eU];omega),λps hps=>?_⟩;have s0:=aaB hps (.lst ((spl 44 l).map λq=>V.str (Tx q)));refine⟨(),(),ps,(),SqL.of aaA,λpc hpc=>?_⟩;have ecut:ai7 ((spl 44 l).map λq=>V.str (Tx q)) none (some 40)=(spl 44 l).map λq=>V.str (Tx q):=aHG (by rw[aR];exact hk)
 rw[ecut];have s1:=aaB hpc (.lst ((spl 44 l).map λq=>V.str (Tx q)));refine⟨pc,rfl,⟨_,SqL.of aaA⟩,amH (K:=K) (a:=pc) (xs:=(spl 44 l).map λq=>V.str (Tx q)) (λi σ H2=>∃(u1 u2 u3:Option V),σ=[some (.str (Tx l)),some (.int lo),some (.int hi),some (.ref ps),some (.int (orM ((ad8 lo hi l).take i))),u1,u2,u3]/\Same (upd (upd H ps (.lst ((spl 44 l).map λq=>V.str (Tx q)))) pc (.lst ((spl 44 l).map λq=>V.str (Tx q)))) H2) ⟨_,_,(),Same.refl _⟩ (λi σ H2 _ ⟨_,_,_,_,s2⟩=>SqL.of (s2 _ _ aaA)) ?_ ?_⟩
 ·rintro i x σ H2 T hx ⟨u1,u2,u3,rfl,s2⟩ hT;rw[bC] at hx;cases ew:(spl 44 l)[i]? with
  |none=>rw[ew] at hx;cases hx
  |some w0=>
   rw[ew] at hx;obtain rfl:V.str (Tx w0)=x:=aZ hx;have hw:=hml w0 (bU ew);obtain⟨m,em⟩:=dP.mp (hok w0 (bU ew));refine⟨T,(),SqT.of aaA,rfl,_,(),(()),?_⟩;refine⟨(),(),(),w0,lo,hi,rfl,⋯,hb,λH3 s3=>?_⟩;rw[em];refine⟨(),rfl,(),ifF rfl ⟨(),(),(()),?_⟩⟩;have et:orM ((ad8 lo hi l).take (i+1))=Builtin.bitOr (orM ((ad8 lo hi l).take i)) m:=by
    rw[←afC,b8];unfold ad8;rw[bC,ew];show orM (_++[(aaL lo hi w0).getD 0])=_;rw[em];rfl
   exact⟨_,_,_,by rw[et];rfl,s2.trans ((aaB hT _).trans s3)⟩
 ·rintro σ H2 ⟨u1,u2,u3,rfl,s2⟩;refine⟨(),ps,(),.inl (SqL.of (s2 _ _ (s1 _ _ aaA))),(()),(),?_⟩;rw[fC (show ¬(40:Int)<((((spl 44 l).map λq=>V.str (Tx q)).length:Nat):Int) by rw[aR];omega)];refine aaU ⟨(),?_⟩;rw[aR,show (spl 44 l).length=(ad8 lo hi l).length by unfold ad8;rw[aR],cQ];exact q H2 (s0.trans (s1.trans s2))
theorem agP:Dx P w base ZZ.c1 1 (anY K):=by
 refine ZZ.c1.dfs anZ (by trivial) ?_;rintro f _ _ _ s H _ Q E hr⟨d,f,rfl,q⟩;refine⟨_,(ss1 (aaH (eOp abD (eOp aa7 (eOp aaM Y1 Y0) eI) eI))),?_⟩;exact⟨(),(),(()),(()),(()),(by show (0:Int)<7;decide),q⟩
theorem afI:Dx P w base ZZ.d5 1 (asG K):=by
 refine ZZ.d5.dfs asL (by trivial) ?_;rintro _ _ _ _ s H _ Q E hr⟨l,rfl,hl,q⟩;refine⟨_,(ss1 (aaH (eOp aa7 (eOp an3 eI Y0) eI))),?_⟩;exact⟨(),(()),⟨⋯,⋯,by decide⟩,(()),q⟩
theorem aeV:Dx P w base ZZ.b7 2 (ak0 K):=by
 refine ZZ.b7.dfs UD (by trivial) ?_;rintro _ _ _ _ s H _ Q E hr⟨d,l,fi,rfl,q⟩;refine⟨_,(ssL (aaI 3 (eD (agP ZZ) hr (A2 Y0 Y2)) UD.nd) (ssL (sIf (tCm oEq Y3 (eGl (v:=.int 6) ZZ.dx ⟨()⟩)) (ss1 (aaH (eIf (tCm oGt Y0 eI) (eOp aa7 Y0 eI) eI))) ssN) (ssL (sIf (tCm oEq Y3 (eGl (v:=.int 0) ZZ.bq ⟨()⟩)) (ss1 (aaH (eIf (tCm oLt Y0 Y1) (eOp aaM Y0 eI) (eOp aa7 Y1 eI)))) ssN) (ss1 (aaH Y0))))),?_⟩;extract_lets
 refine⟨(),(),_,(),?_⟩;refine⟨(),rfl,(),ifI (λc=>?_) (λc=>?_)⟩
 ·refine⟨(),(()),(),ifD (λc2=>⟨(),(()),?_⟩) (λc2=>?_)⟩
  ·have e:nw d l fi=d-1:=by unfold nw;rw[if_pos c,if_pos c2]
   rw[e] at q;exact q
  ·have e:nw d l fi=3:=by unfold nw;rw[if_pos c,if_neg c2]
   rw[e] at q;exact q
 ·refine⟨(),rfl,(),ifI (λc1=>?_) (λc1=>?_)⟩
  ·refine⟨(),(),(()),(),ifD (λc2=>⟨(),(()),?_⟩) (λc2=>⟨(),(()),?_⟩)⟩
   ·have e:nw d l fi=d+1:=by unfold nw;rw[if_neg c,if_pos c1,if_pos c2]
    rw[e] at q;exact q
   ·have e:nw d l fi=l-2:=by unfold nw;rw[if_neg c,if_pos c1,if_neg c2]
    rw[e] at q;exact q
  ·have e:nw d l fi=d:=by unfold nw;rw[if_neg c,if_neg c1]
   rw[e] at q;exact⟨(),q⟩
theorem ap8:Dx P w base ZZ.de 1 (aqM K):=by
 refine ZZ.de.dfs aqD (by trivial) ?_;rintro _ _ _ _ s H _ Q E hr⟨wd,fi,rfl,q⟩;refine⟨_,(ss1 (aaH (eOp aaM eI (eOp abD (eOp aa7 Y0 Y1) eI)))),?_⟩;exact⟨(),(),(()),(()),(by show (0:Int)<7;decide),(()),q⟩
theorem aqW:Dm P w mg base ZZ.df 1 (aqL K aI):=by
 refine ZZ.df.dfs ap9 (by trivial) ?_;rintro _ _ _ _ s H _ Q E hr⟨p,l,fi,rfl,q⟩;refine⟨_,(ss1 (aaH eI)),?_⟩;exact q
theorem af9:Dm P w mg base ZZ.bm 1 (agF K aB):=by
 refine ZZ.bm.dfs agB (by trivial) ?_;rintro _ _ _ _ s H _ Q E hr⟨p,dx,m,rfl,hp,q⟩;refine⟨_,(ss1 (sFl Y0 Y1)),?_⟩;exact⟨(),(),p,aB,dx,[],rfl,hp,ZZ.ar.cl,ZZ.a4,(by show 0<1000;decide),q⟩
theorem akZ:Dm P w mg base ZZ.b8 2 (alI K aB):=by
 refine ZZ.b8.dfs akU (by trivial) ?_;rintro _ _ _ _ s H _ Q E hr⟨p,dx,m,l,fi,rfl,hp,hl,q⟩;refine⟨_,(ss1 (aaH (eOp aDT (ae3 (K:=K) Y0) (eD (afI ZZ) hr (A1 Y1))))),?_⟩;exact⟨(),p,aB,dx,_,(),hp,ZZ.ar.cl,ZZ.a4,rfl,(),(),hl.1,(()),q⟩
theorem adZ:DfMD P w K mg base aE "__init__" 1 ["self","back"] (ajM K aE) [.int 0]:=by
 refine ZZ.bt.dfs aiV (by trivial) ?_;rintro _ _ _ _ s H _ Q E hr⟨p,dx,m,rfl,hp,q⟩;refine⟨_,(ss1 (sFl Y0 Y1)),?_⟩;exact⟨(),(),p,aE,dx,[],rfl,hp,ZZ.as.cl,ZZ.aw,(by show 0<1000;decide),q⟩
theorem aqE:Dm P w mg base ZZ.dg 1 (aqO K aE):=by
 refine ZZ.dg.dfs arZ (by trivial) ?_;rintro _ _ _ _ s H _ Q E hr⟨p,dx,b,l,fi,rfl,hp,hb,hl,q⟩;refine⟨_,(ssL (sIf (tCm oGe (ae3 (K:=K) Y0) Y1) (ss1 (aaH eI)) ssN) (ss1 (aaH (eOp an3 eI (eOp aa7 Y1 (ae3 (K:=K) Y0)))))),?_⟩;extract_lets;refine⟨(),p,aE,dx,_,(),hp,ZZ.as.cl,ZZ.aw,rfl,(),(()),(),ifD (λc=>?_) (λc=>?_)⟩
 ·have e:aq2 b l=0:=by unfold aq2;rw[if_pos c]
  rw[e] at q;exact q
 ·have e:aq2 b l=1*2^(l-b).toNat:=by unfold aq2;rw[if_neg c]
  rw[e] at q;have:=hl.1.2;exact⟨(),(),p,aE,dx,_,(),hp,ZZ.as.cl,ZZ.aw,rfl,(()),(()),⟨⋯,⋯,by decide⟩,q⟩
theorem ai5:Dm P w mg base ZZ.bu 1 (aiQ K aF):=by
 refine ZZ.bu.dfs ajN (by trivial) ?_;rintro _ _ _ _ s H _ Q E hr⟨p,dx,m,rfl,hp,q⟩;refine⟨_,(ss1 (sFl Y0 Y1)),?_⟩;exact⟨(),(),p,aF,dx,[],rfl,hp,ZZ.ax.cl,ZZ.ay,(by show 0<1000;decide),q⟩
theorem arV:Dm P w mg base ZZ.dh 3 (arO K aF):=by
 refine ZZ.dh.dfs aqH (by trivial) ?_;rintro _ _ _ _ s H _ Q E hr⟨p,dx,d,l,fi,rfl,hp,ok,q⟩;refine⟨_,(ssL (sIf (tCm oGt (ae3 (K:=K) Y0) Y1) (ss1 (aaH eI)) ssN) (ss1 (aaH (eOp an3 eI (eD (aeV ZZ) hr (A3 (ae3 (K:=K) Y0) Y1 Y2)))))),?_⟩;extract_lets;refine⟨(),p,aF,dx,_,(),hp,ZZ.ax.cl,ZZ.ay,rfl,(),(()),(),ifD (λc=>?_) (λc=>?_)⟩
 ·have e:arF d l fi=0:=by unfold arF;rw[if_pos c]
  rw[e] at q;exact q
 ·have e:arF d l fi=1*2^(nw d l fi).toNat:=by unfold arF;rw[if_neg c]
  rw[e] at q;have hn:=alM ok ⋯;exact⟨(),p,aF,dx,_,(),hp,ZZ.ax.cl,ZZ.ay,rfl,(),(),_,_,(),(()),⟨⋯,⋯,by decide⟩,q⟩
theorem aiP:Dm P w mg base ZZ.bv 3 (ajY K aH):=by
 refine ZZ.bv.dfs ajK (by trivial) ?_;rintro _ _ _ _ s H _ Q E hr⟨p,dx,l,fi,rfl,hp,ok,q⟩;refine⟨_,(ss1 (aaH (eOp an3 eI (eD (aeV ZZ) hr (A3 Y1 Y1 Y2))))),?_⟩;have hn:=alM ok (aS _);exact⟨(),(),(),_,_,(),(()),⟨⋯,⋯,by decide⟩,q⟩
theorem afZ:Dm P w mg base ZZ.bi 1 (afR K aD):=by
 refine ZZ.bi.dfs af1 (by trivial) ?_;rintro _ _ _ _ s H _ Q E hr⟨p,dx,m,rfl,hp,q⟩;refine⟨_,(ss1 (sFl Y0 Y1)),?_⟩;exact⟨(),(),p,aD,dx,[],rfl,hp,ZZ.ao.cl,ZZ.az,(by show 0<1000;decide),q⟩
theorem aiX:Dm P w mg base ZZ.bw 2 (ajL K aD):=by
 refine ZZ.bw.dfs U4 (by trivial) ?_;rintro _ _ _ _ s H _ Q E hr⟨p,dx,m,l,fi,rfl,hp,hm,⟨hl,hf⟩,q⟩;refine⟨_,(ssL (aaI 3 eI U4.nd) (ssL (acZ (iR1 ZZ.aa (A1 eI)) (gN 4 U4.nd) (ss1 (aaI 3 (eOp oOr Y3 (eOp an3 (ae3 (K:=K) Y0) (eOp acL eI Y4))) U4.nd)) PassesOwn.never) (ss1 (aaH (eOp aDT (eOp an3 (eOp aBV Y3 Y2) eI) (eD (afI ZZ) hr (A1 Y1))))))),?_⟩;extract_lets;have hb:=aFT m (aBE hm.1 hm.2);refine⟨(),by decide,by decide,abG (λi σ H2=>H2=H/\∃u:Option V,σ=[some (.ref p),some (.int l),some (.int fi),some (.int (wks m i)),u]) ⟨rfl,()⟩ ?_ ?_⟩
 ·rintro i σ H2 hi ⟨rfl,u,rfl⟩;have hi':i<6:=hi;exact⟨(),(),p,aD,dx,_,(),hp,ZZ.ao.cl,ZZ.az,rfl,(),(()),.inl ⟨by decide,by decide⟩,(()),⟨⋯,⋯,(by show m.natAbs<2^64;omega)⟩,(()),rfl,()⟩
 ·rintro σ H2 ⟨rfl,u,rfl⟩;exact⟨(),(),(()),hf.1,(()),⟨by decide,by decide,hb.2 fi (adH hf.1 hf.2)⟩,(),(),hl,(()),q⟩
theorem alE:Dm P w mg base ZZ.b9 1 (ak9 K aA):=by
 refine ZZ.b9.dfs akW (by trivial) ?_;rintro _ _ _ _ s H _ Q E hr⟨p,dx,wd,m,rfl,hp,q⟩;refine⟨_,(ssL (sFl Y0 Y1) (ss1 (sFl Y0 Y2))),?_⟩;extract_lets;exact⟨(),(),p,aA,dx,[],rfl,hp,ZZ.a0.cl,ZZ.a5,(by show 0<1000;decide),(),(),p,aA,dx,(),aaA,ZZ.a0.cl,ZZ.bd,(by show 1<1000;decide),q⟩
theorem atZ:Dm P w mg base ZZ.d6 2 (auP K aA):=by
 refine ZZ.d6.dfs U0 (by trivial) ?_;rintro _ _ _ _ s H _ Q E hr⟨p,dx,wd,m,l,fi,rfl,hp,hw,hm,⟨hl,hf⟩,q⟩;refine⟨_,(ssL (aaI 3 (eOp aaM (eD (ap8 ZZ) hr (A2 (ae3 (K:=K) Y0) Y2)) (eOp acL eI (eOp aa7 (ae3 (K:=K) Y0) eI))) U0.nd) (ssL (sIf (tCm oGt Y3 Y1) (ss1 (aaH eI)) ssN) (ss1 (aaH (eOp an3 eI Y3))))),?_⟩;extract_lets;have hn:=aGC l (adG hl.1 hl.2) fi (adH hf.1 hf.2) wd (adH hw.1 hw.2) m (aKE hm.1 hm.2)
 refine⟨(),p,aA,dx,_,(),hp,ZZ.a0.cl,ZZ.a5,aK5 _ _,(),_,(),(),p,aA,dx,_,(),hp,ZZ.a0.cl,ZZ.bd,aJQ _ _,(()),(()),.inl ⟨by decide,by decide⟩,(()),?_⟩;refine⟨(),(),(()),(),ifD (λc=>?_) (λc=>?_)⟩
 ·have e:ahS wd m l fi=0:=by unfold ahS;rw[if_pos (show l<acN wd m fi from c)]
  rw[e] at q;exact q
 ·have e:ahS wd m l fi=1*2^(acN wd m fi).toNat:=by unfold ahS;rw[if_neg (show ¬l<acN wd m fi from c)]
  rw[e] at q;exact⟨(),(()),⟨hn.2.2.1,bR hn.2.2.2 (by decide),by decide⟩,q⟩
theorem agH:Dm P w mg base ZZ.bn 1 (agK K aG):=by
 refine ZZ.bn.dfs agA (by trivial) ?_;rintro _ _ _ _ s H _ Q E hr⟨p,dx,m,rfl,hp,q⟩;refine⟨_,(ss1 (sFl Y0 Y1)),?_⟩;exact⟨(),(),p,aG,dx,[],rfl,hp,ZZ.au.cl,ZZ.av,(by show 0<1000;decide),q⟩
theorem ak5:Dm P w mg base ZZ.ca 2 (akY K aG):=by
 refine ZZ.ca.dfs alH (by trivial) ?_;rintro _ _ _ _ s H _ Q E hr⟨p,dx,wd,l,fi,rfl,hp,hw,⟨hl,hf⟩,q⟩;refine⟨_,(ss1 (aaH (eOp an3 eI (eOp aa7 Y1 (eOp abD (eOp aa7 (eD (agP ZZ) hr (A2 Y1 Y2)) (ae3 (K:=K) Y0)) eI))))),?_⟩;have hn:=aE4 l (adG hl.1 hl.2) fi (adH hf.1 hf.2) wd (adH hw.1 hw.2);exact⟨(),(),(),_,(),(),p,aG,dx,_,(),hp,ZZ.au.cl,ZZ.av,rfl,(()),(()),(by show (0:Int)<7;decide),(()),(()),⟨hn.2.1,bR hn.2.2 (by decide),by decide⟩,q⟩
theorem at9:Dx P w base ZZ.d7 4 (atW K aB aE aF aH aD aA aG aI):=by
 refine ZZ.d7.dfs Uq (by trivial) ?_;rintro _ _ _ _ s H _ Q E hr⟨b,ps,ks,l,fi,rfl,hB,fM,oM,hlf,q⟩;refine⟨_,(ssL (aaI 3 eI Uq.nd) (ssL (acZ (iLc (K:=K) Y0) (gN 4 Uq.nd) (ss1 (aaI 3 (eOp oOr Y3 (asW (eMe ZZ.ar.cl (akZ ZZ) hr Y4 (A2 Y1 Y2)) (asW (eMe ZZ.as.cl (aqE ZZ) hr Y4 (A2 Y1 Y2)) (asW (eMe ZZ.ax.cl (arV ZZ) hr Y4 (A2 Y1 Y2)) (asW (eMe ZZ.bc.cl (aiP ZZ) hr Y4 (A2 Y1 Y2)) (asW (eMe ZZ.ao.cl (aiX ZZ) hr Y4 (A2 Y1 Y2)) (asW (eMe ZZ.a0.cl (atZ ZZ) hr Y4 (A2 Y1 Y2)) (asW (eMe ZZ.au.cl (ak5 ZZ) hr Y4 (A2 Y1 Y2)) (eMe ZZ.ey.cl (aqW ZZ) hr Y4 (A2 Y1 Y2)))))))))) Uq.nd)) PassesOwn.never) (ss1 (aaH Y3)))),?_⟩
 extract_lets;refine⟨(),b,rfl,⟨_,hB⟩,ab7 (K:=K) (a:=b) (xs:=ps.map V.ref) (λi σ H2=>H2=H/\∃u4:Option V,σ=[some (.ref b),some (.int l),some (.int fi),some (.int (orK (ks.take i) l fi)),u4]) ⟨rfl,()⟩ (λi σ H2 _ hP=>by rw[hP.1];exact hB) ?turn ?done⟩
 case done=>
  rintro σ H2 ⟨rfl,u4,rfl⟩;have el:(ps.map V.ref).length=ks.length:=by rw[aR];exact Paired.length fM
  rw[el,cQ];exact⟨(),q⟩
 case turn=>
  rintro i x σ H2 hx ⟨rfl,u4,rfl⟩;rw[bC] at hx;cases ez:ps[i]? with
  |none=>rw[ez] at hx;cases hx
  |some p=>
   rw[ez] at hx;obtain rfl:V.ref p=x:=aZ hx;obtain⟨k,ek,hk⟩:=Ft.get fM ez;have hok:=oM k (bU ek);have et:orK (ks.take (i+1)) l fi=Builtin.bitOr (orK (ks.take i) l fi) (k.due l fi):=by
    rw[b8,ek];exact aA2 _ _ _ _
   rw[et];cases k with
   |num m=>
    obtain⟨dx,hp⟩:=hk;exact⟨(),(.inl ⟨(),p,dx,(),hp,rfl,(),(),p,dx,m,l,fi,rfl,hp,hlf,(()),rfl,()⟩)⟩
   |lst b=>
    obtain⟨dx,hp⟩:=hk;exact⟨(),(.inr (.inl ⟨(),p,dx,(),hp,rfl,(),(),p,dx,b,l,fi,rfl,hp,hok,hlf,(()),rfl,()⟩))⟩
   |nea d=>
    obtain⟨dx,hp⟩:=hk;exact⟨(),(.inr (.inr (.inl ⟨(),p,dx,(),hp,rfl,(),(),p,dx,d,l,fi,rfl,hp,⟨hok,hlf⟩,(()),rfl,()⟩)))⟩
   |wrk=>
    obtain⟨dx,hp⟩:=hk;exact⟨(),(.inr (.inr (.inr (.inl ⟨(),p,dx,(),hp,rfl,(),(),p,dx,l,fi,rfl,hp,hlf.last,(()),rfl,()⟩))))⟩
   |wkd m=>
    obtain⟨dx,hp⟩:=hk;exact⟨(),(.inr (.inr (.inr (.inr (.inl ⟨(),p,dx,(),hp,rfl,(),(),p,dx,m,l,fi,rfl,hp,hok,hlf,(()),rfl,()⟩)))))⟩
   |nth w m=>
    obtain⟨dx,hp⟩:=hk;exact⟨(),(.inr (.inr (.inr (.inr (.inr (.inl ⟨(),p,dx,(),hp,aEV _ _,(),(),p,dx,w,m,l,fi,rfl,hp,hok.1,hok.2,hlf,(()),rfl,()⟩))))))⟩
   |one w=>
    obtain⟨dx,hp⟩:=hk;exact⟨(),(.inr (.inr (.inr (.inr (.inr (.inr (.inl ⟨(),p,dx,(),hp,rfl,(),(),p,dx,w,l,fi,rfl,hp,hok,hlf,(()),rfl,()⟩)))))))⟩
   |nil=>
    obtain⟨dx,hp⟩:=hk;exact⟨(),(.inr (.inr (.inr (.inr (.inr (.inr (.inr ⟨(),p,dx,(),hp,rfl,(),(),p,l,fi,rfl,(()),rfl,()⟩)))))))⟩
theorem ajH:Dx P w base ZZ.bx 4 (aiY K aB aE aF aH aD aA aG aI):=by
 refine ZZ.bx.dfs UH (by trivial) ?_;rintro _ _ _ _ s H _ Q E hr⟨t,rfl,hl,q⟩;refine⟨_,(ssL (sIf (tCm oEq Y0 (eSx [76])) (ss1 (aaH (eMkD ZZ.as (adZ ZZ) hr))) ssN) (ssL (sIf (tCm oEq Y0 (eSx [76,87])) (ss1 (aaH (eMkN ZZ.bc ZZ.dw))) ssN) (ssL (sIf (tVa (eSwN Y0 (eSx [76,45]))) (ssL (aaI 1 (eD (abM ZZ) hr (A3 (eSl slX Y0 (poS eI) poN) eI (eGl (v:=.int 30) ZZ.da ⟨()⟩))) UH.nd) (ss1 (aaH (eIf (tCm aeI Y1 eN) eN (eMk ZZ.as (adZ ZZ).dfm hr (A1 Y1)))))) ssN) (ssL (sIf (tVa (eEw Y0 (eSx [87]))) (ssL (aaI 2 (eD (abM ZZ) hr (A3 (eSl slX Y0 poN (poS (eUn asK eI))) eI (eGl (v:=.int 31) ZZ.be ⟨()⟩))) UH.nd) (ss1 (aaH (eIf (tCm aeI Y2 eN) eN (eMk ZZ.ax (ai5 ZZ) hr (A1 Y2)))))) ssN) (ss1 (aaH eN)))))),?_⟩
 extract_lets;have hz:t.length<=sizeLine:=by rw[eU];omega
 have hc1:=ahK t (some 2) none;have hc2:=ahK t none (some (-1));refine⟨(),rfl,(),ifX (λc=>?a0) (λc1=>⟨(),rfl,(),ifX (λc=>?a1) (λc2=>⟨(),rfl,t,[76,45],rfl,rfl,(),ifD (λc=>?a2) (λc3=>⟨(),rfl,t,87,rfl,rfl,(),ifD (λc=>?a3) (λc4=>?a4)⟩)⟩)⟩)⟩
 case a0=>
  have e:adW t=some (.lst 0):=by unfold adW;rw[if_pos c]
  rw[e] at q;exact λxo dx nx ndx nex=>⟨xo,dx,0,rfl,aaA,rfl,q _ _ (ac4 nx ndx) ⟨xo,rfl,dx,aaA⟩⟩
 case a1=>
  have e:adW t=some .wrk:=by unfold adW;rw[if_neg c1,if_pos c]
  rw[e] at q;exact λxo dx nx ndx nex=>q _ _ (am8 nx ndx) ⟨xo,rfl,dx,aaA⟩
 case a2=>
  have e:adW t=(aaW 1 30 (agD t (some 2) none)).map Mk.lst:=by unfold adW;rw[if_neg c1,if_neg c2,if_pos c]
  rw[e] at q;refine⟨(),(),t,rfl,hz,_,1,30,rfl,⋯,λH1 s1=>?_⟩;cases en:aaW 1 30 (agD t (some 2) none) with
  |none=>
   rw[en] at q;exact⟨(),rfl,(),ifT rfl (q _ _ s1 rfl)⟩
  |some b=>
   rw[en] at q;exact⟨(),rfl,(),ifF rfl ⟨(),λxo dx nx ndx nex=>⟨xo,dx,(),aaA,rfl,q _ _ (s1.trans (ac4 nx ndx)) ⟨xo,rfl,dx,aaA⟩⟩⟩⟩
 case a3=>
  have e:adW t=(aaW 1 31 (agD t none (some (-1)))).map Mk.nea:=by unfold adW;rw[if_neg c1,if_neg c2,if_neg c3,if_pos c]
  rw[e] at q;refine⟨(),(),(),t,rfl,hz,_,1,31,rfl,⋯,λH1 s1=>?_⟩;cases en:aaW 1 31 (agD t none (some (-1))) with
  |none=>
   rw[en] at q;exact⟨(),rfl,(),ifT rfl (q _ _ s1 rfl)⟩
  |some b=>
   rw[en] at q;exact⟨(),rfl,(),ifF rfl ⟨(),λxo dx nx ndx nex=>⟨xo,dx,(),aaA,rfl,q _ _ (s1.trans (ac4 nx ndx)) ⟨xo,rfl,dx,aaA⟩⟩⟩⟩
 case a4=>
  have e:adW t=none:=by unfold adW;rw[if_neg c1,if_neg c2,if_neg c3,if_neg c4]
  rw[e] at q;exact q _ _ (Same.refl H) rfl
theorem aeN:Dx P w base ZZ.cb 4 (ak6 K):=by
 refine ZZ.cb.dfs UQ (by trivial) ?_;rintro _ _ _ _ s H _ Q E hr⟨t,rfl,hl,q⟩;refine⟨_,(ssL (aaI 1 (eD (abM ZZ) hr (A3 Y0 eI (eGl (v:=.int 7) ZZ.ak ⟨()⟩))) UQ.nd) (ss1 (aaH (eIf (tCm oEq Y1 (eGl (v:=.int 7) ZZ.ak ⟨()⟩)) (eGl (v:=.int 0) ZZ.bq ⟨()⟩) Y1)))),?_⟩;extract_lets;refine⟨(),t,0,7,rfl,⋯,λH1 s1=>?_⟩;cases en:aaW 0 7 t with
 |none=>
  have e:wdN t=none:=by unfold wdN;rw[en];rfl
  rw[e] at q;exact⟨(),rfl,(),ifF (fC λz=>nomatch z) ⟨(),q _ s1⟩⟩
 |some n=>
  have e:wdN t=some (if n=7 then 0 else n):=by unfold wdN;rw[en];rfl
  rw[e] at q;refine⟨(),rfl,(),ifI (λc=>?_) (λc=>⟨(),?_⟩)⟩
  ·rw[if_pos c] at q;exact q _ s1
  ·rw[if_neg c] at q;exact q _ s1
theorem afK:Dx P w base ZZ.bj 5 (afY K aB aE aF aH aD aA aG aI):=by
 refine ZZ.bj.dfs UR (by trivial) ?_;rintro _ _ _ _ s H _ Q E hr⟨t,rfl,hl,q⟩;refine⟨_,(ssL (sIf (tVa (eEw Y0 (eSx [76]))) (ssL (aaI 1 (eD (aeN ZZ) hr (A1 (eSl slX Y0 poN (poS (eUn asK eI))))) UR.nd) (ss1 (aaH (eIf (tCm aeI Y1 eN) eN (eMk ZZ.au (agH ZZ) hr (A1 Y1)))))) ssN) (ssL (aaI 2 (az5 Y0 (eSx [35])) UR.nd) (ssL (sIf (tCm oNe (eCB (afA (K:=K)) ZZ.ag PySem.boot_len (A1 Y2)) eI) (ss1 (aaH eN)) ssN) (ssL (aaI 1 (eD (aeN ZZ) hr (A1 (eIx (xLc (K:=K)) Y2 eI))) UR.nd) (ssL (aaI 3 (eD (abM ZZ) hr (A3 (eIx (xLc (K:=K)) Y2 eI) eI (eGl (v:=.int 5) ZZ.dy ⟨()⟩))) UR.nd) (ssL (sIf (tW (wOr (tCm aeI Y1 eN) (ae9 (tCm aeI Y3 eN)))) (ss1 (aaH eN)) ssN) (ss1 (aaH (eMk ZZ.a0 (alE ZZ) hr (A2 Y1 Y3)))))))))),?_⟩
 extract_lets;have hz:t.length<=sizeLine:=by rw[eU];omega
 have hc2:=ahK t none (some (-1));have hsl:=aiE 35 t;have hml:=ab2 35 t;refine⟨(),rfl,t,76,rfl,rfl,(),ifD (λc=>?a0) (λc1=>?a1)⟩
 case a0=>
  have e:aqU t=(wdN (agD t none (some (-1)))).map Mk.one:=by unfold aqU;rw[if_pos c]
  rw[e] at q;refine⟨(),(),(),t,rfl,hz,(),⋯,λH1 s1=>?_⟩;cases en:wdN (agD t none (some (-1))) with
  |none=>
   rw[en] at q;exact⟨(),rfl,(),ifT rfl (q _ _ s1 rfl)⟩
  |some b=>
   rw[en] at q;exact⟨(),rfl,(),ifF rfl ⟨(),λxo dx nx ndx nex=>⟨xo,dx,(),aaA,rfl,q _ _ (s1.trans (ac4 nx ndx)) ⟨xo,rfl,dx,aaA⟩⟩⟩⟩
 case a1=>
  refine⟨(),rfl,t,35,rfl,rfl,(by rw[eU];omega),λps hps=>?_⟩;have s0:=aaB hps (.lst ((spl 35 t).map λq=>V.str (Tx q)));refine⟨(),ps,(),.inl (SqL.of aaA),rfl,(),?_⟩;have two:(∃a b,spl 35 t=[a,b])∨(∀a b,spl 35 t≠[a,b]):=by
   by_cases z:∃a b,spl 35 t=[a,b]
   ·exact .inl z
   ·exact .inr λr s e=>z ⟨r,s,e⟩
  rcases two with ⟨a,b,e2⟩ | hno
  ·have e:aqU t=aHD (wdN a) (aaW 1 5 b):=by unfold aqU;rw[if_neg c1,e2]
   rw[e] at q;have h1:=hml a (by rw[e2];simp);have h2:=hml b (by rw[e2];simp);rw[e2];refine ifF rfl ⟨(),ps,_,(()),SqL.of aaA,rfl,a,rfl,⋯,λH1 s1=>?_⟩;refine⟨(),ps,_,(()),SqL.of (s1 _ _ aaA),rfl,b,1,5,rfl,⋯,λH2 s2=>?_⟩;rw[e2] at s0;cases ew:wdN a with
   |none=>
    rw[ew] at q;exact⟨(),rfl,(),ifT rfl (q _ _ (s0.trans (s1.trans s2)) rfl)⟩
   |some wd=>
    rw[ew] at q;refine⟨(),rfl,(),ifF rfl ⟨(),rfl,(),?_⟩⟩;cases en:aaW 1 5 b with
    |none=>
     rw[en] at q;exact ifT rfl (q _ _ (s0.trans (s1.trans s2)) rfl)
    |some m=>
     rw[en] at q;exact ifF rfl ⟨(),(),λxo dx nx ndx nex=>⟨xo,dx,_,(),aaA,rfl,q _ _ (s0.trans (s1.trans (s2.trans (aDC nx ndx)))) ⟨xo,rfl,dx,aaA⟩⟩⟩
  ·have hlen:¬(spl 35 t).length=2:=λe=>by
    match h:spl 35 t,e with
    |[r,s],_=>exact hno r s h
   have e:aqU t=none:=by
    unfold aqU;rw[if_neg c1];split
    ·rename_i a b h;exact absurd h (hno a b)
    ·rfl
   rw[e] at q;refine ifT ?_ (q _ _ s0 rfl);rw[fC λz=>hlen (by have z:=V.int.inj z;rw[aR] at z;omega)];rfl
theorem ag1:Dx P w base ZZ.c2 7 (anL K aB aE aF aH aD aA aG aI aM aO):=by
 refine ZZ.c2.dfs UL (by trivial) ?_;rintro _ _ _ _ s H _ Q E hr⟨l,lo,hi,wk,rfl,hb,hok,q⟩;refine⟨_,(ssL (sIf (tW (wOr (tNo (tVa (eCB cIs ZZ.ab PyProof.Rows.boot_isinstance (A2 Y0 (eTy ZZ.ae PyProof.Rows.boot_str))))) (ae9 (tCm oGt (eCB aCY ZZ.ag PySem.boot_len (A1 Y0)) (eGl (v:=.int 300) ZZ.ba ⟨()⟩))))) (ss1 arC) ssN) (ssL (aaI 4 (az5 Y0 (eSx [44])) UL.nd) (ssL (aaI 5 eI UL.nd) (ssL (aaI 6 (abO aN) UL.nd) (ssL (acZ (iE ZZ.am (eSl (azY (K:=K)) Y4 poN (poS (eGl (v:=.int 40) ZZ.aj ⟨()⟩)))) (alA (K:=K) (gsC (gN 7 UL.nd) (gsC (gN 8 UL.nd) gsN))) (ssL (aaI 9 (eD (ah3 ZZ) hr (A3 Y8 Y1 Y2)) UL.nd) (ss1 (sIf (tCm aeI Y9 eN) (ssL (aaI 10 (asW (eDV ((ajH ZZ).at_ ZZ.a3) hr Y3 (A1 Y8)) (eDV ((afK ZZ).at_ ZZ.aq) hr Y3 (A1 Y8))) UL.nd) (ssL (sIf (tW (wOr (tCm aeI (v_ 10) eN) (ae9 (tCm oEq (eCB (afA (K:=K)) ZZ.ag PySem.boot_len (A1 Y6)) (eGl (v:=.int 20) ZZ.cu ⟨()⟩))))) (ss1 arC) ssN) (ss1 (an1 (aqS Y6 (v_ 10)))))) (ss1 (aaI 5 (eOp oOr Y5 Y9) UL.nd))))) PassesOwn.never) (ssL (sIf (tCm oGt (eCB (afA (K:=K)) ZZ.ag PySem.boot_len (A1 Y4)) (eGl (v:=.int 40) ZZ.aj ⟨()⟩)) (ss1 arC) ssN) (ss1 (aaH (abE (A2 Y5 Y6)))))))))),?_⟩
 extract_lets;have hl:=hok.len;have hml:=ab2 44 l;refine⟨(),_,.str,.str,rfl,(by decide),rfl,(),ifF rfl ⟨(),l,rfl,(by rw[eU];omega),(()),(),?_⟩⟩;rw[fC (show ¬(300:Int)<((l.length:Nat):Int) by omega)];refine aaU ⟨(),rfl,l,44,rfl,rfl,(by rw[eU];omega),λps hps=>?_⟩;have s0:=aaB hps (.lst ((spl 44 l).map λq=>V.str (Tx q)));refine⟨(zL 0),λmk hmk=>?_⟩;have s1:=aaB hmk (.lst []);refine⟨(),(),ps,(),SqL.of (s1 _ _ aaA),λpc hpc=>?_⟩
 have ecut:ai7 ((spl 44 l).map λq=>V.str (Tx q)) none (some 40)=(spl 44 l).map λq=>V.str (Tx q):=aHG (by rw[aR];exact hok.few);rw[ecut];have hne:pc≠mk:=λe=>by
  rw[e,aaA] at hpc;cases hpc
 have s1b:=aaB hpc (.lst ((spl 44 l).map λq=>V.str (Tx q)));refine⟨pc,rfl,⟨_,SqL.of aaA⟩,amH (K:=K) (a:=pc) (xs:=(spl 44 l).map λq=>V.str (Tx q)) (λi σ H2=>∃(u1 u2 u3 u4:Option V) (qs:List Addr),σ=[some (.str (Tx l)),some (.int lo),some (.int hi),some (.ref (if wk=true then aO else aM)),some (.ref ps),some (.int (orM (plP lo hi ((spl 44 l).take i)))),some (.ref mk),u1,u2,u3,u4]/\Same (upd H ps (.lst ((spl 44 l).map λq=>V.str (Tx q)))) H2/\H2 pc=some (.lst ((spl 44 l).map λq=>V.str (Tx q)))/\H2 mk=some (.lst (qs.map V.ref))/\Ft (MkAt (⟨aB,aE,aF,aH,aD,aA,aG,aI⟩:Cs) H2) qs (mkP wk lo hi ((spl 44 l).take i))) ⟨_,_,_,_,[],rfl,s1.trans s1b,aaA,s1b _ _ aaA,.nil⟩ (λi σ H2 _ ⟨_,_,_,_,_,_,_,h,_⟩=>SqL.of h) ?turn ?done⟩
 case turn=>
  rintro i x σ H2 T hx ⟨u1,u2,u3,u4,qs,rfl,s2,h2c,h2m,hq⟩ hT;rw[bC] at hx;cases ew:(spl 44 l)[i]? with
  |none=>rw[ew] at hx;cases hx
  |some w0=>
   rw[ew] at hx;obtain rfl:V.str (Tx w0)=x:=aZ hx;have hw:=hml w0 (bU ew);refine⟨T,(),SqT.of aaA,rfl,_,(),(()),?_⟩;refine⟨(),(),(),w0,lo,hi,rfl,⋯,hb,λH3 s3=>?_⟩;cases em:aaL lo hi w0 with
   |some m=>
    have et:(spl 44 l).take (i+1)=(spl 44 l).take i++[w0]:=by rw[b8,ew];rfl
    have s23:=(aaB hT _).trans s3;refine⟨(),rfl,(),ifF rfl ⟨(),(),(()),?_⟩⟩;exact⟨_,_,_,_,qs,by rw[et,aGW em,afC];rfl,s2.trans s23,s23 _ _ h2c,s23 _ _ h2m,by rw[et,aIS em];exact hq.keepM s23.keep⟩
   |none=>
    cases wk with
    |false=>
     have hso:(rdM false w0).isSome=true:=by
      rcases hok.all w0 (bU ew) with h | h
      ·rw[em] at h;cases h
      ·exact h
     obtain⟨k,ek⟩:=dP.mp hso;have ek':adW w0=some k:=ek;refine⟨(),rfl,(),ifT rfl ?_⟩;refine .inl ⟨(),rfl,(),w0,rfl,⋯,λv H4 s4 hv=>?_⟩;rw[ek'] at hv;obtain⟨x,rfl,hx⟩:=hv;have s24:=(aaB hT _).trans (s3.trans s4);have hq4:=hq.keepM s24.keep;have lq:qs.length=(mkP false lo hi ((spl 44 l).take i)).length:=Paired.length hq;have l1:=atV false lo hi (spl 44 l) (i+1);have et:(spl 44 l).take (i+1)=(spl 44 l).take i++[w0]:=by rw[b8,ew];rfl
     rw[et,alN em ek,aY,bX] at l1;have hm20:=hok.most;refine⟨(),rfl,(),ifF rfl ⟨(),mk,(),.inl (SqL.of (s24 _ _ h2m)),rfl,(),?_⟩⟩;refine ifI (λc=>?_) (λc=>?_)
     ·rw[aR] at c;omega
     refine⟨(),.inl ⟨rfl,_,SqL.of (s24 _ _ h2m)⟩,(),mk,(()),s24 _ _ h2m,(by rw[aR,eU];omega),?_⟩;have kp:=am9 (l':=qs.map V.ref++[.ref x]) (s24 _ _ h2m);exact⟨_,_,_,_,qs++[x],by rw[et,aCK em];rfl,ab6 hmk (s2.trans s24),by rw[aaD hne];exact s24 _ _ h2c,by rw[bB];exact aaA,by rw[et,alN em ek];exact Ft.app (hq4.keepM kp) (.cons (hx.keep kp) .nil)⟩
    |true=>
     have hso:(rdM true w0).isSome=true:=by
      rcases hok.all w0 (bU ew) with h | h
      ·rw[em] at h;cases h
      ·exact h
     obtain⟨k,ek⟩:=dP.mp hso;have ek':aqU w0=some k:=ek;refine⟨(),rfl,(),ifT rfl ?_⟩;refine .inr ⟨(),rfl,(),w0,rfl,⋯,λv H4 s4 hv=>?_⟩;rw[ek'] at hv;obtain⟨x,rfl,hx⟩:=hv;have s24:=(aaB hT _).trans (s3.trans s4);have hq4:=hq.keepM s24.keep;have lq:qs.length=(mkP true lo hi ((spl 44 l).take i)).length:=Paired.length hq;have l1:=atV true lo hi (spl 44 l) (i+1);have et:(spl 44 l).take (i+1)=(spl 44 l).take i++[w0]:=by rw[b8,ew];rfl
     rw[et,alN em ek,aY,bX] at l1;have hm20:=hok.most;refine⟨(),rfl,(),ifF rfl ⟨(),mk,(),.inl (SqL.of (s24 _ _ h2m)),rfl,(),?_⟩⟩;refine ifI (λc=>?_) (λc=>?_)
     ·rw[aR] at c;omega
     refine⟨(),.inl ⟨rfl,_,SqL.of (s24 _ _ h2m)⟩,(),mk,(()),s24 _ _ h2m,(by rw[aR,eU];omega),?_⟩;have kp:=am9 (l':=qs.map V.ref++[.ref x]) (s24 _ _ h2m);exact⟨_,_,_,_,qs++[x],by rw[et,aCK em];rfl,ab6 hmk (s2.trans s24),by rw[aaD hne];exact s24 _ _ h2c,by rw[bB];exact aaA,by rw[et,alN em ek];exact Ft.app (hq4.keepM kp) (.cons (hx.keep kp) .nil)⟩
 case done=>
  rintro σ H2 ⟨u1,u2,u3,u4,qs,rfl,s2,h2c,h2m,hq⟩;refine⟨(),ps,(),.inl (SqL.of (s2 _ _ aaA)),(()),(),?_⟩;have hfew:=hok.few;rw[fC (show ¬(40:Int)<((((spl 44 l).map λq=>V.str (Tx q)).length:Nat):Int) by rw[aR];omega)];rw[aR,cQ] at hq ⊢;refine aaU ⟨(),(),(zL 2),λp hp=>?_⟩;have s3:=aaB hp (.tup [.int (orM (plP lo hi (spl 44 l))),.ref mk]);exact q p mk qs _ (none_of s0 hmk) (s0.trans (s2.trans s3)) aaA (s3 _ _ h2m) (hq.keepM s3.keep)
theorem arY:Dx P w base ZZ.di 8 (aqQ K aB aE aF aH aD aA aG aI):=by
 refine ZZ.di.dfs UI (by trivial) ?_;rintro _ _ _ _ s H _ Q E hr⟨l,rfl,hok,q1,q2⟩;refine⟨_,(ssL (aaI 1 (eD (ag1 ZZ) hr (aC Y0 (A3 eI (eGl (v:=.int 31) ZZ.be ⟨()⟩) (eGl (v:=.ref aM) ZZ.a3 rfl)))) UI.nd) (ssL (sIf (tCm oEq Y0 (eSx [42])) (ss1 (aaH eN)) ssN) (ssL (sIf (tCm oEq (eIx (xTc (K:=K)) Y1 eI) eI) (ss1 (aaH (eIx (xTc (K:=K)) Y1 eI))) ssN) (ss1 (aaH (eOp aD4 (abO (A1 (eMk ZZ.ar (af9 ZZ) hr (A1 (eIx (xTc (K:=K)) Y1 eI))))) (eIx (xTc (K:=K)) Y1 eI))))))),?_⟩
 extract_lets;refine⟨(),l,1,31,false,rfl,⟨by decide,by decide,by decide⟩,hok,λp m qs H1 hmn s1 hp hm hq=>?_⟩;have lq:qs.length<=20:=by
  have:=Paired.length hq;have:=hok.most;omega
 refine⟨(),rfl,(),ifX (λc=>q1 c _ s1) (λc=>?_)⟩;have q2:=q2 c;unfold amR at q2;generalize mkP false 1 31 (spl 44 l)=ms at hq q2;generalize orM (plP 1 31 (spl 44 l))=M at hp q2;refine⟨(),p,_,(()),SqT.of hp,rfl,rfl,(),ifI (λc0=>⟨(),p,_,(()),SqT.of hp,rfl,q2 m qs _ hmn s1 hm ?_⟩) (λc0=>?_)⟩
 ·have e:agT false M=[]:=by unfold agT;rw[if_pos c0]
  rw[e];exact hq
 have e:agT false M=[.num M]:=by unfold agT;rw[if_neg c0];rfl
 rw[e] at q2;refine⟨(),p,_,(()),SqT.of hp,rfl,λxo dx nx ndx nex=>⟨xo,dx,(),aaA,rfl,(zL 1),λl1 hl1=>?_⟩⟩;have n1:Same H1 (upd (upd (upd H1 dx (.own xo)) xo (.ins aB dx [])) xo (.ins aB dx [("mask",.int M)])):=ac4 nx ndx;have n2:=n1.trans (aaB hl1 (.lst [.ref xo]));refine⟨(),p,_,(()),SqT.of (n2 _ _ hp),rfl,l1,m,(()),aaA,n2 _ _ hm,(by rw[aR,eU];show 1+_<=_;omega),λl2 hl2=>?_⟩;have n3:=n2.trans (aaB hl2 (.lst ([.ref xo]++qs.map V.ref)))
 exact q2 l2 (xo::qs) _ (none_of (s1.trans n2) hl2) (s1.trans n3) aaA (.cons ⟨dx,(aaB hl2 _) _ _ ((aaB hl1 _) _ _ aaA)⟩ (hq.keepM n3.keep))
theorem ajO:Dx P w base ZZ.bz 8 (ajB K aB aE aF aH aD aA aG aI):=by
 refine ZZ.bz.dfs US (by trivial) ?_;rintro _ _ _ _ s H _ Q E hr⟨l,rfl,hok,q1,q2⟩;refine⟨_,(ssL (aaI 1 (eD (ag1 ZZ) hr (aC Y0 (A3 eI (eGl (v:=.int 7) ZZ.ak ⟨()⟩) (eGl (v:=.ref aO) ZZ.aq rfl)))) US.nd) (ssL (sIf (tCm oEq Y0 (eSx [42])) (ss1 (aaH eN)) ssN) (ssL (sIf (tCm oEq (eIx (xTc (K:=K)) Y1 eI) eI) (ss1 (aaH (eIx (xTc (K:=K)) Y1 eI))) ssN) (ssL (aaI 2 (eOp aDT (eOp oOr (eIx (xTc (K:=K)) Y1 eI) (eOp aBV (eIx (xTc (K:=K)) Y1 eI) (eGl (v:=.int 7) ZZ.ak ⟨()⟩))) (eGl (v:=.int 127) ZZ.b4 ⟨()⟩)) US.nd) (ss1 (aaH (eOp aD4 (abO (A1 (eMk ZZ.ao (afZ ZZ) hr (A1 Y2)))) (eIx (xTc (K:=K)) Y1 eI)))))))),?_⟩
 extract_lets;refine⟨(),l,0,7,true,rfl,⟨by decide,by decide,by decide⟩,hok,λp m qs H1 hmn s1 hp hm hq=>?_⟩;have lq:qs.length<=20:=by
  have:=Paired.length hq;have:=hok.most;omega
 refine⟨(),rfl,(),ifX (λc=>q1 c _ s1) (λc=>?_)⟩;have q2:=q2 c;unfold amR at q2;generalize mkP true 0 7 (spl 44 l)=ms at hq q2;generalize orM (plP 0 7 (spl 44 l))=M at hp q2;refine⟨(),p,_,(()),SqT.of hp,rfl,rfl,(),ifI (λc0=>⟨(),p,_,(()),SqT.of hp,rfl,q2 m qs _ hmn s1 hm ?_⟩) (λc0=>?_)⟩
 ·have e:agT true M=[]:=by unfold agT;rw[if_pos c0]
  rw[e];exact hq
 have e:agT true M=[.wkd (wk7 M)]:=by unfold agT;rw[if_neg c0];rfl
 rw[e] at q2;refine⟨(),p,_,(()),SqT.of hp,rfl,(),p,_,(()),SqT.of hp,rfl,(()),(by show (0:Int)<=7;decide),(()),(()),?_⟩;refine⟨(),λxo dx nx ndx nex=>⟨xo,dx,(),aaA,rfl,(zL 1),λl1 hl1=>?_⟩⟩;have n1:Same H1 (upd (upd (upd H1 dx (.own xo)) xo (.ins aD dx [])) xo (.ins aD dx [("mask",.int (wk7 M))])):=ac4 nx ndx;have n2:=n1.trans (aaB hl1 (.lst [.ref xo]));refine⟨(),p,_,(()),SqT.of (n2 _ _ hp),rfl,l1,m,(()),aaA,n2 _ _ hm,(by rw[aR,eU];show 1+_<=_;omega),λl2 hl2=>?_⟩
 have n3:=n2.trans (aaB hl2 (.lst ([.ref xo]++qs.map V.ref)));exact q2 l2 (xo::qs) _ (none_of (s1.trans n2) hl2) (s1.trans n3) aaA (.cons ⟨dx,(aaB hl2 _) _ _ ((aaB hl1 _) _ _ aaA)⟩ (hq.keepM n3.keep))
theorem afN:Dx P w base ZZ.d8 3 (atO K):=by
 refine ZZ.d8.dfs UB (by trivial) ?_;rintro _ _ _ _ s H _ Q E hr⟨k,rfl,hk,q⟩;refine⟨_,(ssL (aaI 1 (eOp acM Y0 eI) UB.nd) (ssL (aaI 2 (eOp abD Y0 eI) UB.nd) (ssL (sIf (tCm oEq Y1 (eGl (v:=.int 12) ZZ.a9 ⟨()⟩)) (ss1 (aaH (abE (A3 eI (eGl (v:=.int 29) ZZ.db ⟨()⟩) Y2)))) ssN) (ss1 (aaH (abE (A3 (eOp aaM Y1 eI) (eD (ac6 ZZ) hr (A2 (eGl (v:=.int 1) ZZ.cv ⟨()⟩) (eOp aaM Y1 eI))) Y2))))))),?_⟩;extract_lets
 refine⟨(),(()),⟨by decide,by decide⟩,?_⟩;refine⟨(),(()),(by show (0:Int)<7;decide),?_⟩;refine⟨(),rfl,(),ifI (λc=>?_) (λc=>?_)⟩
 ·refine⟨(),(zL 3),λp hp=>?_⟩;exact q p _ (aaB hp _) (by unfold anG;rw[if_pos c];exact aaA)
 ·refine⟨(),(()),(),(()),_,(),⟨⋯,⋯⟩,(),(zL 3),λp hp=>?_⟩;exact q p _ (aaB hp _) (by unfold anG;rw[if_neg c];exact aaA)
theorem atB:Dx P w base ZZ.d9 3 (asU K):=by
 refine ZZ.d9.dfs UU (by trivial) ?_;rintro _ _ _ _ s H _ Q E hr⟨h,m,rfl,hh,hm,q⟩;refine⟨_,(ssL (aaI 2 eI UU.nd) (ssL (acZ (iLc (K:=K) (eD (aoE ZZ) hr (A1 Y0))) (gN 3 UU.nd) (ss1 (aaI 2 (eOp oOr Y2 (eOp an3 Y1 (eOp acL (eGl (v:=.int 60) ZZ.af ⟨()⟩) Y3))) UU.nd)) PassesOwn.never) (ss1 (aaH Y2)))),?_⟩;extract_lets;have bh:=ar1 hh.1 hh.2;have bm:=ar1 hm.1 hm.2;refine⟨(),h,rfl,⟨hh.1,⋯⟩,λp H1 s1 h1=>⟨p,rfl,⟨_,SqL.of h1⟩,ab7 (K:=K) (a:=p) (xs:=(at3 h).map V.int) (λi σ H2=>∃(v3:Option V),σ=[some (.int h),some (.int m),some (.int (orM (((at3 h).take i).map λz=>m*2^(60*z).toNat))),v3]/\Same H1 H2) ⟨(),Same.refl _⟩ (λi σ H2 _ ⟨_,_,s2⟩=>SqL.of (s2 _ _ h1)) ?turn ?done⟩⟩
 case done=>
  rintro σ H2 ⟨v3,rfl,s2⟩;rw[aR,cQ];exact⟨(),q _ H2 rfl (s1.trans s2)⟩
 case turn=>
  rintro i x σ H2 hx ⟨v3,rfl,s2⟩;rw[bC] at hx;cases ez:(at3 h)[i]? with
  |none=>rw[ez] at hx;cases hx
  |some z=>
   rw[ez] at hx;obtain rfl:V.int z=x:=aZ hx;have et:orM (((at3 h).take (i+1)).map λz=>m*2^(60*z).toNat)=Builtin.bitOr (orM (((at3 h).take i).map λz=>m*2^(60*z).toNat)) (m*2^(60*z).toNat):=by rw[b8,ez,bB];exact afC _ _
   rw[et];have hz:=bU ez;rw[alO hh.1 hh.2] at hz;obtain⟨n,hn,_,rfl⟩:=flt_mem.mp hz;refine⟨(),(),(),(()),.inl ⟨by decide,by decide⟩,(()),⟨?_,?_,?_⟩,(()),?_⟩
   ·omega
   ·omega
   ·omega
   ·exact⟨(),s2⟩
theorem avH:Dx P w base ZZ.ep 5 (av0 K aB aE aF aH aD aA aG aI):=by
 refine ZZ.ep.dfs Uu (by trivial) ?_;rintro _ _ _ _ s H _ Q E hr⟨dv,wv,kd,kw,l,fi,rfl,hd,hw,hlf,q⟩;refine⟨_,(ssL (sIf (tW (ajW (tCm aeI Y0 eN) (aeM (tCm aeI Y1 eN)))) (ss1 (aaH (eD (afI ZZ) hr (A1 Y2)))) ssN) (ssL (aaI 4 eI Uu.nd) (ssL (acZ (iT (abE (A2 Y0 Y1))) (gN 5 Uu.nd) (ss1 (sIf (tCm aOY Y5 eN) (ss1 (aaI 4 (eOp oOr Y4 (eD (at9 ZZ) hr (A3 Y5 Y2 Y3))) Uu.nd)) ssN)) PassesOwn.never) (ss1 (aaH Y4))))),?_⟩
 extract_lets;have loop:kd.isNone=false∨kw.isNone=false->aaO kd kw l fi=orO kw (orO kd 0 l fi) l fi:=λh=>by
  unfold aaO;rw[if_neg];rintro⟨h1,h2⟩;rcases h with h | h
  ·rw[h] at h1;cases h1
  ·rw[h] at h2;cases h2
 cases kd with
 |none=>
  have ed:dv=.non:=hd;subst ed;cases kw with
  |none=>
   have ew:wv=.non:=hw;subst ew;refine⟨(),rfl,(),?_⟩;show if decide (V.non=V.non)=true then _ else _
   rw[eZ rfl];refine aa4 ⟨(),rfl,(),?_⟩;show if decide (V.non=V.non)=true then _ else _
   rw[eZ rfl];exact aa4 ⟨(),l,rfl,hlf.1,q H (Same.refl _)⟩
  |some kw=>
   rw[loop (.inr rfl)] at q;refine⟨(),rfl,(),?_⟩;show if decide (V.non=V.non)=true then _ else _
   rw[eZ rfl];obtain⟨pw,qw,rfl,lw,fw,ow⟩:=hw;refine aa4 ⟨(),rfl,(),aaU ?_⟩;refine⟨(),(),(zL 2),λtt ht=>⟨tt,rfl,⟨_,SqT.of aaA⟩,aq3 (K:=K) (a:=tt) (xs:=[V.non,(V.ref pw)]) (λi σ H2=>∃v5:Option V,σ=[some V.non,some (V.ref pw),some (.int l),some (.int fi),some (.int (match i with | 0=>0 | 1=>orO none 0 l fi | _=>orO (some kw) (orO none 0 l fi) l fi)),v5]/\Same (upd H tt (.tup [V.non,(V.ref pw)])) H2) ⟨(),Same.refl _⟩ (λi σ H2 _ ⟨_,_,s2⟩=>SqT.of (s2 _ _ aaA)) ?turn ?done⟩⟩
   case done=>
    rintro σ H2 ⟨v5,rfl,s2⟩;exact⟨(),q H2 ((aaB ht _).trans s2)⟩
   case turn=>
    rintro i x σ H2 hx ⟨v5,rfl,s2⟩;have sA:=(aaB ht (.tup [V.non,(V.ref pw)])).trans s2
    match i,hx with
    |0,hx=>
     cases hx;refine⟨(),rfl,(),?_⟩;show if (!decide (V.non=V.non))=true then _ else _
     rw[eZ rfl];exact aaU ⟨(),s2⟩
    |1,hx=>
     cases hx;exact⟨(),rfl,(),aa4 ⟨(),(),(),(),pw,qw,kw,l,fi,rfl,SqL.of (sA _ _ lw),fw.keepM sA.keep,ow,hlf,(()),⟨(),s2⟩⟩⟩
    |i+2,hx=>cases hx
 |some kd=>
  rw[loop (.inl rfl)] at q;obtain⟨pd,qd,rfl,ld,fd,od⟩:=hd;refine⟨(),rfl,(),aaU ?_⟩;cases kw with
  |none=>
   have ew:wv=.non:=hw;subst ew;refine⟨(),(),(zL 2),λtt ht=>⟨tt,rfl,⟨_,SqT.of aaA⟩,aq3 (K:=K) (a:=tt) (xs:=[(V.ref pd),V.non]) (λi σ H2=>∃v5:Option V,σ=[some (V.ref pd),some V.non,some (.int l),some (.int fi),some (.int (match i with | 0=>0 | 1=>orO (some kd) 0 l fi | _=>orO none (orO (some kd) 0 l fi) l fi)),v5]/\Same (upd H tt (.tup [(V.ref pd),V.non])) H2) ⟨(),Same.refl _⟩ (λi σ H2 _ ⟨_,_,s2⟩=>SqT.of (s2 _ _ aaA)) ?turn ?done⟩⟩
   case done=>
    rintro σ H2 ⟨v5,rfl,s2⟩;exact⟨(),q H2 ((aaB ht _).trans s2)⟩
   case turn=>
    rintro i x σ H2 hx ⟨v5,rfl,s2⟩;have sA:=(aaB ht (.tup [(V.ref pd),V.non])).trans s2
    match i,hx with
    |0,hx=>
     cases hx;exact⟨(),rfl,(),aa4 ⟨(),(),(),(),pd,qd,kd,l,fi,rfl,SqL.of (sA _ _ ld),fd.keepM sA.keep,od,hlf,(()),⟨(),s2⟩⟩⟩
    |1,hx=>
     cases hx;refine⟨(),rfl,(),?_⟩;show if (!decide (V.non=V.non))=true then _ else _
     rw[eZ rfl];exact aaU ⟨(),s2⟩
    |i+2,hx=>cases hx
  |some kw=>
   obtain⟨pw,qw,rfl,lw,fw,ow⟩:=hw;refine⟨(),(),(zL 2),λtt ht=>⟨tt,rfl,⟨_,SqT.of aaA⟩,aq3 (K:=K) (a:=tt) (xs:=[(V.ref pd),(V.ref pw)]) (λi σ H2=>∃v5:Option V,σ=[some (V.ref pd),some (V.ref pw),some (.int l),some (.int fi),some (.int (match i with | 0=>0 | 1=>orO (some kd) 0 l fi | _=>orO (some kw) (orO (some kd) 0 l fi) l fi)),v5]/\Same (upd H tt (.tup [(V.ref pd),(V.ref pw)])) H2) ⟨(),Same.refl _⟩ (λi σ H2 _ ⟨_,_,s2⟩=>SqT.of (s2 _ _ aaA)) ?turn ?done⟩⟩
   case done=>
    rintro σ H2 ⟨v5,rfl,s2⟩;exact⟨(),q H2 ((aaB ht _).trans s2)⟩
   case turn=>
    rintro i x σ H2 hx ⟨v5,rfl,s2⟩;have sA:=(aaB ht (.tup [(V.ref pd),(V.ref pw)])).trans s2
    match i,hx with
    |0,hx=>
     cases hx;exact⟨(),rfl,(),aa4 ⟨(),(),(),(),pd,qd,kd,l,fi,rfl,SqL.of (sA _ _ ld),fd.keepM sA.keep,od,hlf,(()),⟨(),s2⟩⟩⟩
    |1,hx=>
     cases hx;exact⟨(),rfl,(),aa4 ⟨(),(),(),(),pw,qw,kw,l,fi,rfl,SqL.of (sA _ _ lw),fw.keepM sA.keep,ow,hlf,(()),⟨(),s2⟩⟩⟩
    |i+2,hx=>cases hx
theorem alG:Dm P w mg base ZZ.cc 4 (akV K aJ):=by
 refine ZZ.cc.dfs ak3 (by trivial) ?_;rintro f _ _ _ s H _ Q E hr⟨p,dx,fa,m0,m1,m3,dv,wv,rfl,hp,hf,h0,h1,q⟩;refine⟨_,(ssL (sFl Y0 (eIx (xLc (K:=K)) Y1 (eGl (v:=.int 0) ZZ.er ⟨()⟩))) (ssL (sFl Y0 (eIx (xLc (K:=K)) Y1 (eGl (v:=.int 1) ZZ.ez ⟨()⟩))) (ssL (sFl Y0 (eIx (xLc (K:=K)) Y1 (eGl (v:=.int 2) ZZ.dz ⟨()⟩))) (ssL (sFl Y0 (eIx (xLc (K:=K)) Y1 (eGl (v:=.int 3) ZZ.ex ⟨()⟩))) (ssL (sFl Y0 (eIx (xLc (K:=K)) Y1 (eGl (v:=.int 4) ZZ.bk ⟨()⟩))) (ss1 (sFl Y0 (eD (atB ZZ) hr (A2 (ae3 (K:=K) Y0) (ae3 (K:=K) Y0)))))))))),?_⟩
 extract_lets;have hfp:fa≠p:=λe=>by rw[e,hp] at hf;cases hf
 have g0:H fa=some (.lst [.int m0,.int m1,dv,.int m3,wv]):=hf;have g1:(upd H p (.ins aJ dx (aaT "minute_mask" (.int m0) []))) fa=some (.lst [.int m0,.int m1,dv,.int m3,wv]):=by rw[aaD hfp];exact g0
 have g2:(upd (upd H p (.ins aJ dx (aaT "minute_mask" (.int m0) []))) p (.ins aJ dx (aaT "hour_mask" (.int m1) (aaT "minute_mask" (.int m0) [])))) fa=some (.lst [.int m0,.int m1,dv,.int m3,wv]):=by rw[aaD hfp];exact g1
 have g3:(upd (upd (upd H p (.ins aJ dx (aaT "minute_mask" (.int m0) []))) p (.ins aJ dx (aaT "hour_mask" (.int m1) (aaT "minute_mask" (.int m0) [])))) p (.ins aJ dx (aaT "day_marks" dv (aaT "hour_mask" (.int m1) (aaT "minute_mask" (.int m0) []))))) fa=some (.lst [.int m0,.int m1,dv,.int m3,wv]):=by rw[aaD hfp];exact g2
 have g4:(upd (upd (upd (upd H p (.ins aJ dx (aaT "minute_mask" (.int m0) []))) p (.ins aJ dx (aaT "hour_mask" (.int m1) (aaT "minute_mask" (.int m0) [])))) p (.ins aJ dx (aaT "day_marks" dv (aaT "hour_mask" (.int m1) (aaT "minute_mask" (.int m0) []))))) p (.ins aJ dx (aaT "month_mask" (.int m3) (aaT "day_marks" dv (aaT "hour_mask" (.int m1) (aaT "minute_mask" (.int m0) [])))))) fa=some (.lst [.int m0,.int m1,dv,.int m3,wv]):=by rw[aaD hfp];exact g3
 have g5:(upd (upd (upd (upd (upd H p (.ins aJ dx (aaT "minute_mask" (.int m0) []))) p (.ins aJ dx (aaT "hour_mask" (.int m1) (aaT "minute_mask" (.int m0) [])))) p (.ins aJ dx (aaT "day_marks" dv (aaT "hour_mask" (.int m1) (aaT "minute_mask" (.int m0) []))))) p (.ins aJ dx (aaT "month_mask" (.int m3) (aaT "day_marks" dv (aaT "hour_mask" (.int m1) (aaT "minute_mask" (.int m0) [])))))) p (.ins aJ dx (aaT "weekday_marks" wv (aaT "month_mask" (.int m3) (aaT "day_marks" dv (aaT "hour_mask" (.int m1) (aaT "minute_mask" (.int m0) []))))))) fa=some (.lst [.int m0,.int m1,dv,.int m3,wv]):=by rw[aaD hfp];exact g4
 have l5:∀(f:Str) (v:V),(acB m0 m1 dv m3 wv 0).lookup f=some v->f≠"time_mask"->(aaT "weekday_marks" wv (aaT "month_mask" (.int m3) (aaT "day_marks" dv (aaT "hour_mask" (.int m1) (aaT "minute_mask" (.int m0) []))))).lookup f=some v:=λf v h hne=>by
  unfold acB at h;rw[aaE,if_neg hne] at h;exact h
 refine⟨(),fa,_,(()),SqL.of g0,rfl,(),p,aJ,dx,(),hp,ZZ.ac.cl,ZZ.ah,(by show 0<1000;decide),(),fa,_,(()),SqL.of g1,rfl,(),p,aJ,dx,(),aaA,ZZ.ac.cl,ZZ.al,(by show 1<1000;decide),(),fa,_,(()),SqL.of g2,rfl,(),p,aJ,dx,(),aaA,ZZ.ac.cl,ZZ.a1,(by show 2<1000;decide),(),fa,_,(()),SqL.of g3,rfl,(),p,aJ,dx,(),aaA,ZZ.ac.cl,ZZ.ai,(by show 3<1000;decide),(),fa,_,(()),SqL.of g4,rfl,(),p,aJ,dx,(),aaA,ZZ.ac.cl,ZZ.ap,(by show 4<1000;decide),(),p,aJ,dx,_,(),aaA,ZZ.ac.cl,ZZ.al,l5 _ _ (ae6 ..) (by decide +kernel),(),p,aJ,dx,_,(),aaA,ZZ.ac.cl,ZZ.ah,l5 _ _ (adY ..) (by decide +kernel),m1,m0,rfl,h1,h0,λt HT ht sT=>?_⟩
 refine⟨(),p,aJ,dx,(),sT _ _ aaA,ZZ.ac.cl,ZZ.a2,(by show 5<1000;decide),q t _ ht aaA λb o hb hne=>?_⟩;rw[aaD hne];refine sT _ _ ?_;rw[aaD hne,aaD hne,aaD hne,aaD hne,aaD hne];exact hb
theorem ac8:Dm P w mg base ZZ.cm 6 (alV K aJ aB aE aF aH aD aA aG aI):=by
 refine ZZ.cm.dfs U1 (by trivial) ?_;rintro _ _ _ _ s H _ Q E hr⟨p,dx,m0,m1,m3,tm,k,dv,wv,kd,kw,rfl,hp,hk,hm,hd,hw,q⟩;refine⟨_,(ssL (aaI 2 (eD (afN ZZ) hr (A1 Y1)) U1.nd) (ssL (sIf (tNo (tVa (eD (ahD ZZ) hr (A2 (ae3 (K:=K) Y0) (eIx (xTc (K:=K)) Y2 eI))))) (ss1 (aaH eI)) ssN) (ss1 (aaH (eD (avH ZZ) hr (aC (ae3 (K:=K) Y0) (A3 (ae3 (K:=K) Y0) (eIx (xTc (K:=K)) Y2 eI) (eIx (xTc (K:=K)) Y2 eI)))))))),?_⟩
 extract_lets;have ml:=adJ hk.1 hk.2;refine⟨(),k,rfl,hk,λt H1 s1 h1=>?_⟩;rw[aiL] at h1;have hp1:=s1 _ _ hp;refine⟨(),p,aJ,dx,_,(),hp1,ZZ.ac.cl,ZZ.ai,ae0 ..,(),t,_,(()),SqT.of h1,rfl,m3,mnA k,rfl,⟨hm,⋯⟩,(),?_⟩;by_cases c:tb m3 (mnA k).toNat=true
 ·rw[if_pos c] at q;rw[c];refine aaU ⟨(),p,aJ,dx,_,(),hp1,ZZ.ac.cl,ZZ.a1,anF ..,(),p,aJ,dx,_,(),hp1,ZZ.ac.cl,ZZ.ap,ag9 ..,(),t,_,(()),SqT.of h1,rfl,(),t,_,(()),SqT.of h1,rfl,dv,wv,kd,kw,lnA k,k%7,rfl,hd.keep s1,hw.keep s1,ml.2,λH' s'=>q H' (s1.trans s')⟩
 ·have c':tb m3 (mnA k).toNat=false:=by simpa using c
  rw[if_neg c] at q;rw[c'];exact aa4 (q H1 s1)
theorem arQ:Dx P w base ZZ.dj 9 (ap0 K aB aE aF aH aD aA aG aI):=by
 refine ZZ.dj.dfs UT (by trivial) ?_;rintro _ _ _ _ s H _ Q E hr⟨t,pl,rfl,h⟩;refine⟨_,(ssL (sIf (tCm oEq Y1 (eGl (v:=.int 2) ZZ.dz ⟨()⟩)) (ss1 (aaH (eD (arY ZZ) hr (A1 Y0)))) ssN) (ssL (sIf (tCm oEq Y1 (eGl (v:=.int 4) ZZ.bk ⟨()⟩)) (ss1 (aaH (eD (ajO ZZ) hr (A1 Y0)))) ssN) (ssL (aaI 2 (eDgK (eGl (v:=.ref a_BOUNDS) ZZ.es rfl) Y1) UT.nd) (ss1 (aaH (eD (aoD ZZ) hr (A3 Y0 (eIx (xTc (K:=K)) Y2 eI) (eIx (xTc (K:=K)) Y2 eI)))))))),?_⟩
 extract_lets;rcases h with ⟨rfl,ko,hT,q⟩ | ⟨rfl,ko,hT,q⟩ | ⟨lo,hi,m,hp,hT,q⟩
 ·cases ko with
  |none=>
   have et:t=[42]:=hT.2.2;exact⟨(),rfl,(),ifI (λ_=>⟨(),t,rfl,hT.2.1,(λ_ H' s'=>q _ H' s' rfl (λp e=>nomatch e)),(λc=>absurd et c)⟩) (λc=>absurd rfl c)⟩
  |some ks=>
   exact⟨(),rfl,(),ifI (λ_=>⟨(),t,rfl,hT.2.1,(λe=>absurd e hT.2.2.1),(λ_ m qs H' hm s' hl hF=>q _ H' s' ⟨m,qs,rfl,hl,by rw[←hT.2.2.2.2];exact hF,λk hk=>(amD hT.2.2.2.1 k hk).2.2⟩ (λp e=>by cases e;exact hm))⟩) (λc=>absurd rfl c)⟩
 ·cases ko with
  |none=>
   have et:t=[42]:=hT.2.2;exact⟨(),rfl,(),ifI (λc=>absurd c (by decide)) (λ_=>⟨(),rfl,(),ifI (λ_=>⟨(),t,rfl,hT.2.1,(λ_ H' s'=>q _ H' s' rfl (λp e=>nomatch e)),(λc=>absurd et c)⟩) (λc=>absurd rfl c)⟩)⟩
  |some ks=>
   exact⟨(),rfl,(),ifI (λc=>absurd c (by decide)) (λ_=>⟨(),rfl,(),ifI (λ_=>⟨(),t,rfl,hT.2.1,(λe=>absurd e hT.2.2.1),(λ_ m qs H' hm s' hl hF=>q _ H' s' ⟨m,qs,rfl,hl,by rw[←hT.2.2.2.2];exact hF,λk hk=>(amD hT.2.2.2.1 k hk).2.2⟩ (λp e=>by cases e;exact hm))⟩) (λc=>absurd rfl c)⟩)⟩
 ·have hl:=hT.len;have hne:pl≠2/\pl≠4:=⋯;rcases hp with ⟨rfl,rfl,rfl⟩ | ⟨rfl,rfl,rfl⟩ | ⟨rfl,rfl,rfl⟩
  ·exact⟨(),rfl,(),ifI (λc=>absurd c (by decide)) (λ_=>⟨(),rfl,(),ifI (λc=>absurd c (by decide)) (λ_=>⟨(),a_BOUNDS,_,_,(),ZZ.bb,rfl,rfl,(),(),a_BOUNDS_0,_,(()),ZZ.bf _,rfl,(),a_BOUNDS_0,_,(()),ZZ.bf _,rfl,t,_,(),hl,⟨by decide,by decide,by decide⟩,hT.ok,λH' s'=>by rw[hT.is];exact q H' s'⟩)⟩)⟩
  ·exact⟨(),rfl,(),ifI (λc=>absurd c (by decide)) (λ_=>⟨(),rfl,(),ifI (λc=>absurd c (by decide)) (λ_=>⟨(),a_BOUNDS,_,_,(),ZZ.bb,rfl,rfl,(),(),a_BOUNDS_1,_,(()),ZZ.bg _,rfl,(),a_BOUNDS_1,_,(()),ZZ.bg _,rfl,t,_,(),hl,⟨by decide,by decide,by decide⟩,hT.ok,λH' s'=>by rw[hT.is];exact q H' s'⟩)⟩)⟩
  ·exact⟨(),rfl,(),ifI (λc=>absurd c (by decide)) (λ_=>⟨(),rfl,(),ifI (λc=>absurd c (by decide)) (λ_=>⟨(),a_BOUNDS,_,_,(),ZZ.bb,rfl,rfl,(),(),a_BOUNDS_3,_,(()),ZZ.bh _,rfl,(),a_BOUNDS_3,_,(()),ZZ.bh _,rfl,t,_,(),hl,⟨by decide,by decide,by decide⟩,hT.ok,λH' s'=>by rw[hT.is];exact q H' s'⟩)⟩)⟩
theorem avC:Dx P w base ZZ.eq 10 (awO K aB aE aF aH aD aA aG aI):=by
 refine ZZ.eq.dfs avO (by trivial) ?_;rintro _ _ _ _ s H _ Q E hr⟨t,pl,rfl,h⟩;refine⟨_,(ss1 (aU3 (ss1 (aaH (eD (arQ ZZ) hr (A2 Y0 Y1)))))),?_⟩;exact⟨(),(),t,pl,rfl,h⟩
theorem auY:Dx P w base ZZ.ea 11 (auL K aB aE aF aH aD aA aG aI aJ):=by
 refine ZZ.ea.dfs UN (by trivial) ?_;rintro _ _ _ _ s H _ Q E hr⟨w0,w1,w2,w3,w4,m0,m1,m3,kd,kw,rfl,f0,f1,f3,d2,d4,hb,q⟩;refine⟨_,(ssL (sIf (tW (wOr (tNo (tVa (eCB cIs ZZ.ab PyProof.Rows.boot_isinstance (A2 Y0 (eTy ZZ.ae PyProof.Rows.boot_str))))) (ae9 (tCm oGt (eCB aCY ZZ.ag PySem.boot_len (A1 Y0)) (eGl (v:=.int 1600) ZZ.br ⟨()⟩))))) (ss1 arC) ssN) (ssL (aaI 1 (az5 Y0 (eSx [32])) UN.nd) (ssL (sIf (tW (wOr (tCm oNe (eCB (afA (K:=K)) ZZ.ag PySem.boot_len (A1 Y1)) (eGl (v:=.int 5) ZZ.d0 ⟨()⟩)) (ae9 (tCm (auU (K:=K)) (eSx []) Y1)))) (ss1 arC) ssN) (ss1 (aaH (eMk ZZ.ac (alG ZZ) hr (A1 (aIN ["place","word"] [] [] (iE ZZ.am Y1) (λ_ _ _ _ _ _=>alA (K:=K) (n:=2) (gsC (gN 0 (show ((["place","word"]:List Str)++([]:List Str)).Nodup by decide +kernel)) (gsC (gN 1 (show ((["place","word"]:List Str)++([]:List Str)).Nodup by decide +kernel)) gsN))) (λ_ _ _ _ _ _=>fsN) (λ_ _ _ _ _ _=>(eD (avC ZZ) hr (A2 Y1 Y0))))))))))),?_⟩
 extract_lets;have n32:∀w∈[w0,w1,w2,w3,w4],32∉w:=λw hw=>by
  simp only[aX,cF,or_false] at hw;rcases hw with rfl | rfl | rfl | rfl | rfl
  ·exact f0.sp
  ·exact f1.sp
  ·exact d2.1.1
  ·exact f3.sp
  ·exact d4.1.1
 have nn:∀w∈[w0,w1,w2,w3,w4],w≠[]:=λw hw=>by
  simp only[aX,cF,or_false] at hw;rcases hw with rfl | rfl | rfl | rfl | rfl
  ·exact f0.ne
  ·exact f1.ne
  ·exact d2.1.2
  ·exact f3.ne
  ·exact d4.1.2
 have hs:=afH 32 [w0,w1,w2,w3,w4] (dY _ _) n32;obtain⟨L,eL⟩:∃L,L=aaY 32 [w0,w1,w2,w3,w4]:=⟨()⟩;have hl:L.length<=1600:=by
  have:=f0.len;have:=f1.len;have:=f3.len;have:=d2.2.1.len;have:=d4.2.1.len;rw[eL];show (w0++32::(w1++32::(w2++32::(w3++32::w4)))).length<=1600;simp only[aY,bZ];omega
 rw[←eL] at hs ⊢;refine⟨(),_,.str,.str,rfl,(by decide),rfl,(),ifF rfl ⟨(),L,rfl,(by rw[eU];omega),(()),(),?_⟩⟩;rw[fC (show ¬(1600:Int)<((L.length:Nat):Int) by omega)];refine aaU ⟨(),rfl,L,32,rfl,rfl,(by rw[eU];omega),λps hps=>?_⟩;rw[hs];have s0:=aaB hps (.lst ([w0,w1,w2,w3,w4].map λq=>V.str (Tx q)));refine⟨(),ps,(),.inl (SqL.of aaA),rfl,(),ifNe rfl ⟨(),ps,(),.inl (SqL.of aaA),rfl,rfl,(),?_⟩⟩;show if inV (.str (Tx [])) ([w0,w1,w2,w3,w4].map λq=>V.str (Tx q))=true then _ else _
 rw[aGJ nn];refine aaU ⟨(),ps,rfl,⟨_,SqL.of aaA⟩,awL (xs:=[w0,w1,w2,w3,w4].map λq=>V.str (Tx q)) (λD i l H=>i=0/\l=[]∨(∃l',H D=some (.lst l'))/\RR (⟨aB,aE,aF,aH,aD,aA,aG,aI⟩:Cs) m0 m1 m3 (gO false kd) (gO true kw) D i l H) ?u1 ?u2 (zL 5) (λD _=>.inl ⟨rfl,rfl⟩) (SqL.of aaA) ?st ?dn⟩
 case u1=>
  rintro D i l HX l' (h | ⟨hl,h⟩)
  ·exact .inl h
  ·exact .inr ⟨⟨_,aaA⟩,h.upd hl⟩
 case u2=>
  rintro D i l HX HY s (h | ⟨⟨l',hl⟩,h⟩)
  ·exact .inl h
  ·exact .inr ⟨⟨l',s _ _ hl⟩,h.keep s⟩
 case st=>
  intro i x l D H2 E' F' hx hR hD s2 hz hE hF;have hR':RR (⟨aB,aE,aF,aH,aD,aA,aG,aI⟩:Cs) m0 m1 m3 (gO false kd) (gO true kw) D i l H2:=by
   rcases hR with ⟨rfl,rfl⟩ | h
   ·rfl
   ·exact h.2
  have up:∀{H5:Hp},Same H2 H5->∃l',H5 D=some (.lst l'):=λs=>⟨_,s _ _ hz⟩;have fr:∀{p:Addr},H2 p=none->p≠D:=λh e=>by rw[e,hz] at h;cases h
  match i,hx,hR' with
  |0,hx,e=>cases hx;exact⟨(),(),w0,0,rfl,.inr (.inr ⟨0,59,m0,.inl ⟨rfl,rfl,rfl⟩,f0,λH' s'=>hE _ _ s' (.inr ⟨up s',by rw[e];rfl⟩)⟩)⟩
  |1,hx,e=>cases hx;exact⟨(),(),w1,1,rfl,.inr (.inr ⟨0,23,m1,.inr (.inl ⟨rfl,rfl,rfl⟩),f1,λH' s'=>hE _ _ s' (.inr ⟨up s',by rw[e];rfl⟩)⟩)⟩
  |2,hx,e=>cases hx;exact⟨(),(),w2,2,rfl,.inl ⟨rfl,kd,d2,λv H' s' hv hn=>hE _ _ s' (.inr ⟨up s',v,by rw[e];rfl,hv,λp ep=>fr (hn p ep)⟩)⟩⟩
  |3,hx,⟨dv,e,hd⟩=>cases hx;exact⟨(),(),w3,3,rfl,.inr (.inr ⟨1,12,m3,.inr (.inr ⟨rfl,rfl,rfl⟩),f3,λH' s'=>hE _ _ s' (.inr ⟨up s',dv,by rw[e];rfl,hd.keep s'⟩)⟩)⟩
  |4,hx,⟨dv,e,hd⟩=>cases hx;exact⟨(),(),w4,4,rfl,.inr (.inl ⟨rfl,kw,d4,λv H' s' hv hn=>hE _ _ s' (.inr ⟨up s',dv,v,by rw[e];rfl,hd.keep s',hv,λp ep=>fr (hn p ep)⟩)⟩)⟩
  |i+5,hx,_=>cases hx
 case dn=>
  intro D H2 l hR hD s2 hz;rcases hR with ⟨e,_⟩ | ⟨_,hR⟩
  ·cases e
  obtain⟨dv,wv,rfl,hd,hw⟩:=hR;intro x dx nx ndx nex;have n1:=am8 (a:=.own x) (b:=.ins aJ dx []) nx ndx;refine⟨x,dx,D,m0,m1,m3,dv,wv,rfl,aaA,n1 _ _ hz,⟨f0.nn,hb.1⟩,⟨f1.nn,hb.2⟩,λtm H' htm hx' hs'=>⟨rfl,?_⟩⟩;have sX:Same H2 H':=λb o hb'=>hs' b o (n1 _ _ hb') (λe=>by rw[e,nx] at hb';cases hb');exact q x dx dv wv tm H' htm (s0.trans (s2.trans sX)) hx' (hd.1.keep sX) (hw.1.keep sX)
theorem alT:Dm P w mg base ZZ.cn 7 (anA K aJ aB aE aF aH aD aA aG aI):=by
 refine ZZ.cn.dfs U3 (by trivial) ?_;rintro _ _ _ _ s H _ Q E hr⟨p,dx,m0,m1,m3,tm,mo,dv,wv,kd,kw,rfl,hp,hn,hd,hw,q⟩;refine⟨_,(ssL (aaI 2 (eD (ayV ZZ) hr (A1 Y1)) U3.nd) (ssL (aaI 3 (eD (ag3 ZZ) hr (A1 (eIx (xTc (K:=K)) Y2 eI))) U3.nd) (ssL (sIf (tNo (tVa (eD (ahD ZZ) hr (A2 (ae3 (K:=K) Y0) (eIx (xTc (K:=K)) Y3 eI))))) (ss1 (aaH (eSx [109,111,110,116,104]))) ssN) (ssL (sIf (tNo (tVa (eD (ahD ZZ) hr (A2 (eMe ZZ.ac.cl (ac8 ZZ) hr Y0 (A1 (eD (ahC ZZ) hr (A2 (eIx (xTc (K:=K)) Y3 eI) (eIx (xTc (K:=K)) Y3 eI))))) (eIx (xTc (K:=K)) Y3 eI))))) (ss1 (aaH (eSx [100,97,121]))) ssN) (ssL (sIf (tNo (tVa (eD (ahD ZZ) hr (A2 (ae3 (K:=K) Y0) (eIx (xTc (K:=K)) Y2 eI))))) (ss1 (aaH (eSx [104,111,117,114]))) ssN) (ssL (sIf (tNo (tVa (eD (ahD ZZ) hr (A2 (ae3 (K:=K) Y0) (eIx (xTc (K:=K)) Y2 eI))))) (ss1 (aaH (eSx [109,105,110,117,116,101]))) ssN) (ss1 (aaH eN)))))))),?_⟩
 extract_lets;refine⟨(),mo,rfl,λt H1 s1 h1=>⟨(),t,_,(()),SqT.of (h1),rfl,(),λy m k t2 H2 ok e s2 h2=>?_⟩⟩;have s12:=s1.trans s2;have hp2:=s12 _ _ hp;have q':=q y m k;refine⟨(),p,aJ,dx,_,(),hp2,ZZ.ac.cl,ZZ.ai,ae0 ..,(),t2,_,(()),SqT.of (h2),rfl,m3,m,rfl,⟨hn.2.2,by have:=ok.1;omega⟩,(),?_⟩;cases c1:tb m3 m.toNat with
 |false=>
  have z:=q' H2 ok e s12;rw[sh1 c1] at z;exact aa4 z
 |true=>
  have mk:=acH (y:=y) ok.1.1 ok.1.2;have kl:=ahH (y:=y) ok.1.1 ok.1.2;refine aaU ⟨(),p,dx,(),hp2,acQ ..,(),t2,_,(()),SqT.of (h2),rfl,(),t2,_,(()),SqT.of (h2),rfl,y,m,rfl,ok.1,λH3 s3=>?_⟩;refine⟨p,dx,m0,m1,m3,tm,kindOf y m,dv,wv,kd,kw,rfl,s3 _ _ hp2,kl,hn.2.2,hd.keep (s12.trans s3),hw.keep (s12.trans s3),λH4 s4=>?_⟩;rw[mk.1,mk.2,if_pos c1,aiC ok e];have s24:=s3.trans s4;have sA:=s12.trans s24;refine⟨(),t2,_,(()),SqT.of (s24 _ _ h2),rfl,_,k,rfl,⟨ahP (asF ok) (apJ hd) (apJ hw),by have:=ok.2.1;omega⟩,(),?_⟩
  cases c2:tb (aaO kd kw (aaF y m) ((mo / 1440-k+1+6)%7)) k.toNat with
  |false=>
   have z:=q' H4 ok e sA;rw[sh2 c1 c2] at z;exact aa4 z
  |true=>
   refine aaU ⟨(),p,aJ,dx,_,(),s24 _ _ hp2,ZZ.ac.cl,ZZ.al,ae6 ..,(),t,_,(()),SqT.of ((s2.trans s24) _ _ h1),rfl,m1,(),⟨hn.2.1,⋯⟩,(),?_⟩;cases c3:tb m1 (mo%1440 / 60).toNat with
   |false=>
    have z:=q' H4 ok e sA;rw[sh3 c1 c2 c3] at z;exact aa4 z
   |true=>
    refine aaU ⟨(),p,aJ,dx,_,(),s24 _ _ hp2,ZZ.ac.cl,ZZ.ah,adY ..,(),t,_,(()),SqT.of ((s2.trans s24) _ _ h1),rfl,m0,(),⟨hn.1,⋯⟩,(),?_⟩;cases c4:tb m0 (mo%1440%60).toNat with
    |false=>
     have z:=q' H4 ok e sA;rw[sh4 c1 c2 c3 c4] at z;exact aa4 z
    |true=>
     have z:=q' H4 ok e sA;rw[sh5 c1 c2 c3 c4] at z;exact aaU z
theorem anO:Dx P w base ZZ.c3 1 (an9 K):=by
 refine ZZ.c3.dfs an7 (by trivial) ?_;rintro _ _ _ _ s H _ Q E hr⟨N,rfl,q⟩;refine⟨_,(ssL (sIf (tCm oEq Y1 eI) (ss1 (aaH (abE (A2 (eOp aaM Y0 eI) eI)))) ssN) (ss1 (aaH (abE (A2 Y0 (eOp aaM Y1 eI)))))),?_⟩;extract_lets;refine⟨(),rfl,(),ifI (λc=>?_) (λc=>?_)⟩
 ·refine⟨(),(()),(zL 2),λt ht=>q t _ (aaB ht _) ?_⟩;rw[show (N+1) / 12=N / 12+1 by omega,show (N+1)%12+1=1 by omega];exact aaA
 ·refine⟨(),(),(()),(zL 2),λt ht=>q t _ (aaB ht _) ?_⟩;rw[show (N+1) / 12=N / 12 by omega,show (N+1)%12+1=N%12+1+1 by omega];exact aaA
theorem at7:Dx P w base ZZ.eb 5 (asH K):=by
 refine ZZ.eb.dfs UC (by trivial) ?_;rintro _ _ _ _ s H _ Q E hr⟨mo,rfl,q⟩;refine⟨_,(ssL (aaI 1 (eD (ag3 ZZ) hr (A1 (eOp acM Y0 (eGl (v:=.int 1440) ZZ.ad ⟨()⟩)))) UC.nd) (ss1 (aaH (abE (A2 (eIx (xTc (K:=K)) Y1 eI) (eIx (xTc (K:=K)) Y1 eI)))))),?_⟩;extract_lets;refine⟨(),(()),⟨by decide,by decide⟩,mo / 1440,rfl,λy m k p H1 ok e s1 hp=>?_⟩;refine⟨(),p,_,(()),SqT.of hp,rfl,(),p,_,(()),SqT.of hp,rfl,(zL 2),λt ht=>?_⟩
 have hm:=ok.1;have e1:(12*y+m-1) / 12=y:=⋯;have e2:(12*y+m-1)%12+1=m:=⋯;have u:=abH (12*y+m-1);unfold af8 at u;have d:aaV (12*y+m-1)=db y+ahead y m:=by unfold aaV;rw[e1,e2]
 rw[e1,e2,d] at u;have hk:=ok.2;have e':db y+ahead y m+k-1=mo / 1440:=e;refine q (12*y+m-1) t _ (s1.trans (aaB ht _)) (by rw[d];omega) (by rw[u];omega) ?_;rw[e1,e2];exact aaA
theorem an6:Dx P w base ZZ.c4 1 (anN K):=by
 refine ZZ.c4.dfs UA (by trivial) ?_;rintro _ _ _ _ s H _ Q E hr⟨d,ts,rfl,hS,hl,ht,q⟩;refine⟨_,(ssL (aaI 1 eI UA.nd) (ssL (acZ (iE ZZ.am Y0) (alA (K:=K) (gsC (gN 2 UA.nd) (gsC (gN 3 UA.nd) gsN))) (ss1 (aaI 1 (eOp oOr Y1 (eOp aVG Y3 (eOp acL (eGl (v:=.int 1440) ZZ.ad ⟨()⟩) Y2))) UA.nd)) PassesOwn.never) (ss1 (aaH Y1)))),?_⟩;extract_lets;refine⟨(),d,rfl,⟨_,hS⟩,amH (K:=K) (a:=d) (xs:=ts.map V.int) (λi σ H2=>∃(u1 u2:Option V),σ=[some (.ref d),some (.int (mnN (λj=>ts.getD j 0) i)),u1,u2]/\Same H H2) ⟨_,(),Same.refl _⟩ (λi σ H2 _ ⟨_,_,_,s2⟩=>s2.seq hS) ?_ ?_⟩
 ·rintro i x σ H2 T hx ⟨u1,u2,rfl,s2⟩ hT;rw[bC] at hx;cases ew:ts[i]? with
  |none=>rw[ew] at hx;cases hx
  |some z=>
   rw[ew] at hx;obtain rfl:V.int z=x:=aZ hx;have hz:=ht z (bU ew);have hi:=(cC.mp ew).1;have ez:ts.getD i 0=z:=by rw[eG,ew];rfl
   have ee:mnN (λj=>ts.getD j 0) (i+1)=Builtin.bitOr (mnN (λj=>ts.getD j 0) i) (z*2^(1440*i)):=by
    show Builtin.bitOr _ (ts.getD i 0*_)=_;rw[ez]
   refine⟨T,(),SqT.of aaA,rfl,_,(),(()),?_⟩;refine⟨(),(),(),(()),.inl ⟨by decide,by decide⟩,(()),⟨⋯,⋯,?_⟩,(()),?_⟩
   ·have:=hz.1;have:=hz.2;have e:((z.natAbs:Nat):Int)<((2^1440:Nat):Int):=by rw[aa8];omega
    exact Int.ofNat_lt.mp e
   ·rw[show (1440*(i:Int)).toNat=1440*i by omega];exact⟨_,_,by rw[ee];rfl,s2.trans (aaB hT _)⟩
 ·rintro σ H2 ⟨u1,u2,rfl,s2⟩;rw[aR];exact⟨(),q H2 s2⟩
theorem ao6:Dx P w base ZZ.ew 1 (azI K):=by
 refine ZZ.ew.dfs az4 (by trivial) ?_;rintro _ _ _ _ s H _ Q E hr⟨m,k,rfl,hm,hk,hj,q⟩;refine⟨_,(ss1 (aaH (eOp aa7 (eBL (eOp aDT Y0 (eUn asK Y0))) eI))),?_⟩;refine⟨(),(),(),(()),rfl,(),rfl,(()),?_⟩;show Q (.int (((Builtin.Int.intBits (Builtin.bitAnd m (-m)):Nat):Int)-1)) H;rw[aGM hm hk hj,aAQ,show (((k+1:Nat):Int)-1)=k by omega];exact q
theorem ai0:Dx P w base ZZ.b0 7 (aiS K aB aE aF aH aD aA aG aI aJ):=by
 refine ZZ.b0.dfs Ux (by trivial) ?_;rintro _ _ _ _ s H _ Q E hr⟨tw,p,dx,m0,m1,m3,tm,d,dv,wv,kd,kw,rfl,hp,hn,hd,hw,hsh,q⟩;refine⟨_,(ssL (aaI 2 (eD (ag3 ZZ) hr (A1 Y1)) Ux.nd) (ssL (aaI 3 (eD (ahC ZZ) hr (A2 (eIx (xTc (K:=K)) Y2 eI) (eIx (xTc (K:=K)) Y2 eI))) Ux.nd) (ssL (aaI 4 (eOp aBV (eMe ZZ.ac.cl (ac8 ZZ) hr Y0 (A1 Y3)) (eIx (xTc (K:=K)) Y2 eI)) Ux.nd) (ssL (sIf (tCm oEq Y4 eI) (ss1 (aaH (eOp aa7 (eOp aaM Y1 (eIx (xTc (K:=K)) (eD (afN ZZ) hr (A1 Y3)) eI)) (eIx (xTc (K:=K)) Y2 eI)))) ssN) (ss1 (aaH (eOp aa7 (eOp aaM Y1 (eD (ao6 ZZ) hr (A1 Y4))) eI))))))),?_⟩
 extract_lets;refine⟨(),d,rfl,λy m k t H1 ok e s1 h1=>?_⟩;have mk:=acH (y:=y) ok.1.1 ok.1.2;have kl:=ahH (y:=y) ok.1.1 ok.1.2;refine⟨(),t,_,(()),SqT.of (h1),rfl,(),t,_,(()),SqT.of (h1),rfl,y,m,rfl,ok.1,λH2 s2=>?_⟩;have s12:=s1.trans s2;refine⟨(),p,dx,(),s12 _ _ hp,acQ ..,(),p,dx,m0,m1,m3,tm,kindOf y m,dv,wv,kd,kw,rfl,s12 _ _ hp,kl,hn.2.2,hd.keep s12,hw.keep s12,λH3 s3=>?_⟩;have s13:=s12.trans s3;rw[mk.1,mk.2,aiC ok e]
 obtain⟨D,eD⟩:∃D,D=(if tb m3 m.toNat=true then aaO kd kw (aaF y m) ((d-k+1+6)%7) else 0):=⟨()⟩;rw[←eD];have nnD:0<=aaO kd kw (aaF y m) ((d-k+1+6)%7):=ahP (asF ok) (apJ hd) (apJ hw);have D0:0<=D/\tb D k.toNat=false:=by
  rw[eD];rcases hsh y m k ok e with ⟨_,z⟩ | ⟨_,z,z2⟩
  ·rw[if_neg (by rw[z];decide)];exact⟨aS 0,aaQ _⟩
  ·rw[if_pos z];exact⟨nnD,z2⟩
 have DL:D<2^((aaF y m).toNat+1):=by
  rw[eD];split
  ·exact as6 (asF ok) (apJ hd) (apJ hw)
  ·exact aaN _
 have day:∀j:Nat,k+j<=aaF y m->tb D (k.toNat+j)=false->aC8 m3 kd kw (d+j) tw:=λj hj hb y' m' k' ok' e'=>by
  have hk0:=ok.2.1;obtain⟨rfl,rfl,rfl⟩:=af6 (show OkD y m (k+j) from ⟨ok.1,⋯,hj⟩) ok' (by rw[e',←e];unfold abY;omega);rcases hsh y m k ok e with ⟨z0,z⟩ | ⟨z0,z,z2⟩
  ·exact .inl ⟨z0,z⟩
  ·refine .inr ⟨z0,z,?_⟩;rw[eD,if_pos z] at hb;rw[show d+(j:Int)-(k+(j:Int))+1+6=d-k+1+6 by omega,show (k+(j:Int)).toNat=k.toNat+j by omega];exact hb
 have hk:=ok.2;refine⟨(),t,_,(()),SqT.of ((s2.trans s3) _ _ h1),rfl,(()),(by show (0:Int)<=k;omega),?_⟩;refine⟨(),rfl,(),ifI (λc=>?_) (λc=>?_)⟩
 ·refine⟨(),(),kindOf y m,rfl,kl,λt2 H4 s4 h4=>?_⟩;rw[aiL,mk.1,mk.2] at h4;refine⟨t2,_,(()),SqT.of h4,rfl,(()),(),t,_,(()),SqT.of ((s2.trans (s3.trans s4)) _ _ h1),rfl,(()),q _ _ ⋯ (λd' a b=>?_) (s13.trans s4)⟩;have z:=day (d'-d).toNat ⋯ (by rw[←ad6 D0.1,c,aaQ]);rw[show d+((d'-d).toNat:Int)=d' by omega] at z;exact z
 ·have X0:0<D / 2^k.toNat:=by
   have:0<=D / 2^k.toNat:=dW D0.1 (bN (aaN _));omega
  obtain⟨l,hl,hj⟩:=aB7 X0;have l1:1<=l:=by
   rcases Nat.eq_zero_or_pos l with z | z
   ·rw[z,ad6 D0.1,Nat.add_zero,D0.2] at hl;cases hl
   ·exact z
  have hl2:tb D (k.toNat+l)=true:=by rw[←ad6 D0.1];exact hl
  have hle:k.toNat+l<=(aaF y m).toNat:=by
   rcases cL (aaF y m).toNat (k.toNat+l) with w' | w'
   ·rw[adI DL w'] at hl2;cases hl2
   ·exact w'
  refine⟨(),(),_,l,rfl,X0,hl,hj,(()),(()),q _ _ ⋯ (λd' a b=>?_) s13⟩;have z:=day (d'-d).toNat ⋯ (by rw[←ad6 D0.1];exact hj _ ⋯);rw[show d+((d'-d).toNat:Int)=d' by omega] at z;exact z
theorem at6:Dx P w base ZZ.ec 8 (as7 K aB aE aF aH aD aA aG aI aJ):=by
 refine ZZ.ec.dfs auQ (by trivial) ?_;rintro _ _ _ _ s H _ Q E hr⟨p,dx,tw,m0,m1,m3,tm,d,dv,wv,kd,kw,rfl,hp,hn,hd,hw,hsh,q⟩;refine⟨_,(ssL (sIf (tCm oEq Y2 (eSx [109,105,110,117,116,101])) (ss1 (aaH Y1)) ssN) (ssL (sIf (tCm oEq Y2 (eSx [104,111,117,114])) (ss1 (aaH (eOp aa7 (eOp aaM (eOp aa7 Y1 (eOp abD Y1 (eGl (v:=.int 60) ZZ.af ⟨()⟩))) (eGl (v:=.int 60) ZZ.af ⟨()⟩)) eI))) ssN) (ss1 (aaH (eOp aa7 (eOp aaM (eOp acL (eGl (v:=.int 1440) ZZ.ad ⟨()⟩) (eD (ai0 ZZ) hr (A2 Y0 (eOp acM Y1 (eGl (v:=.int 1440) ZZ.ad ⟨()⟩))))) (eGl (v:=.int 1440) ZZ.ad ⟨()⟩)) eI))))),?_⟩
 extract_lets;refine⟨(),rfl,(),ifX (λc=>?_) (λc=>?_)⟩
 ·exact⟨(),q _ _ (aS _) (λz=>absurd c z) (λt a b=>by rw[show t=d by omega];exact hsh) (Same.refl _)⟩
 refine⟨(),rfl,(),ifX (λc2=>?_) (λc2=>?_)⟩
 ·subst c2;exact⟨(),(),(()),(by show (0:Int)<60;decide),(()),(()),(()),q _ _ ⋯ (λ_=>by omega) (λt a b=>aFG hsh ⋯ ⋯) (Same.refl _)⟩
 ·exact⟨(),(),(()),⟨by decide,by decide⟩,tw,p,dx,m0,m1,m3,tm,d / 1440,dv,wv,kd,kw,rfl,hp,hn,hd,hw,aIO hsh c c2,λr H1 hr1 hr2 s1=>⟨(()),.inl ⟨by decide,by decide⟩,(()),(()),q _ _ ⋯ (λ_=>by omega) (λt a b=>aJS (hr2 _ ⋯ ⋯)) s1⟩⟩
theorem amC:Dx P w base ZZ.co 1 (al2 K):=by
 refine ZZ.co.dfs amU (by trivial) ?_;rintro _ _ _ _ s H _ Q E hr⟨p,vs',sts,a,b,tm,rfl,hp,hP,hl,q⟩;refine⟨_,(ss1 (sIf (tW (ajW (tCm (oNeE hr.units) Y0 (abO aN)) (aeM (tCm oEq (eIx (xTc (K:=K)) (eIx (xLc (K:=K)) Y0 (eUn asK eI)) eI) Y3)))) (ss1 (akX (abE (A3 (eIx (xTc (K:=K)) (eIx (xLc (K:=K)) Y0 (eUn asK eI)) eI) Y2 Y3)) (gSb Y0 (eUn asK eI)))) (ss1 (an1 (aqS Y0 (abE (A3 Y1 Y2 Y3))))))),?_⟩;refine⟨(),(zL 0),λl hl0=>⟨p,l,vs',rfl,rfl,SqL.of ((aaB hl0 _) _ _ hp),SqL.of aaA,(),?_⟩⟩
 have s0:=aaB hl0 (.lst []);have hp0:=s0 _ _ hp;have app:∀{H1:Hp} (t:Addr),Same H H1->H1 t=none->∀z:TrX,Paired (TpX (upd (upd H1 t (.tup [.int z.1,.int z.2.1,.str (Tx z.2.2)])) p (.lst (vs'++[.ref t])))) (vs'++[.ref t]) (sts++[z]):=λ{H1} t s1 ht z=>by
  have tp:t≠p:=λe=>by rw[e,s1 _ _ hp] at ht;cases ht
  have g:∀b xs,H b=some (.tup xs)->upd (upd H1 t (.tup [.int z.1,.int z.2.1,.str (Tx z.2.2)])) p (.lst (vs'++[.ref t])) b=some (.tup xs):=λb xs hb=>by
   rw[aaD (λe=>by rw[e,hp] at hb;cases hb)];exact (s1.trans (aaB ht _)) _ _ hb
  exact ab4 (Paired.mapP hP λ_ _ y=>amS g y) ⟨t,rfl,by rw[aaD tp,aaA]⟩
 have oth:∀{H1:Hp} (t:Addr) (o u:HO),Same H H1->H1 t=none->∀q o',q≠p->H q=some o'->upd (upd H1 t o) p u q=some o':=λ{H1} t o u s1 ht q o' nq hq=>by
  rw[aaD nq];exact (s1.trans (aaB ht o)) _ _ hq
 by_cases c:vs'=[]
 ·subst c;cases hP;refine aaU (aaU ⟨(),.inl ⟨rfl,_,SqL.of hp0⟩,(),(),(),(zL 3),λt ht=>⟨p,(()),(aaB ht _) _ _ hp0,(by show 0<sizeLine;decide),q _ _ aaA (app t s0 ht (a,b,tm)) (oth t _ _ s0 ht)⟩⟩)
 obtain⟨l0,v,rfl⟩:=aEA c;obtain⟨st0,z,rfl,hP0,t0,rfl,ht0⟩:=aA5 hP;rw[ao1] at q;rw[eZ c];have ht00:=s0 _ _ ht0;refine aa4 ⟨(),(),p,_,(()),SqL.of hp0,ax0,t0,_,(()),SqT.of ht00,rfl,(),rfl,(),ifX (λce=>?_) (λce=>?_)⟩
 ·rw[if_pos ce] at q;refine⟨(),(),p,_,(()),SqL.of hp0,ax0,t0,_,(()),SqT.of ht00,rfl,(),(),(zL 3),λt ht=>?_⟩;have s1:=aaB ht (.tup [.int z.1,.int b,.str (Tx tm)]);have tp:t≠p:=λe=>by rw[e,hp0] at ht;cases ht
  refine⟨(),(),p,_,(()),s1 _ _ hp0,aF1,?_⟩;rw[aAJ];have g:∀b' xs,H b'=some (.tup xs)->upd (upd (upd H l (.lst [])) t (.tup [.int z.1,.int b,.str (Tx tm)])) p (.lst (l0++[.ref t])) b'=some (.tup xs):=λb' xs hb=>by
   rw[aaD (λe=>by rw[e,hp] at hb;cases hb)];exact (s0.trans s1) _ _ hb
  exact q _ _ aaA (ab4 (Paired.mapP hP0 λ_ _ y=>amS g y) ⟨t,rfl,by rw[aaD tp,aaA]⟩) (oth t _ _ s0 ht)
 ·rw[if_neg ce] at q;exact⟨(),.inl ⟨rfl,_,SqL.of hp0⟩,(),(),(),(zL 3),λt ht=>⟨p,(()),(aaB ht _) _ _ hp0,(by rw[eU];omega),q _ _ aaA (app t s0 ht (a,b,tm)) (oth t _ _ s0 ht)⟩⟩
theorem auR:Dx P w base ZZ.ed 9 (atE K aB aE aF aH aD aA aG aI aJ):=by
 refine ZZ.ed.dfs UF (by trivial) ?_;rintro _ _ _ _ s H _ Q E hr⟨p,b,e,m0,m1,m3,kd,kw,rfl,hR,hE,hbe,q⟩;refine⟨_,(ssL (aaI 3 (abO aN) UF.nd) (ssL (aaI 4 Y1 UF.nd) (ssL (sWh (tCm oLe Y4 Y2) (ssL (aaI 5 (eMe ZZ.ac.cl (alT ZZ) hr Y0 (A1 Y4)) UF.nd) (ssL (aaI 6 (eCB cMin ZZ.e2 PyProof.Rows.boot_min (A2 (eD (at6 ZZ) hr (A3 Y0 Y4 Y5)) Y2)) UF.nd) (ssL (an1 (eD (amC ZZ) hr (aC Y3 (A3 Y4 Y6 Y5)))) (ss1 (aaI 4 (eOp aaM Y6 eI) UF.nd))))) PassesOwn.never) (ss1 (aaH Y3))))),?_⟩
 extract_lets;have hg:=hR.ok;obtain⟨dx,dv,wv,hp,hn,hb,hd,hw⟩:=hR;refine⟨(zL 0),λl hl=>⟨(),?_⟩⟩;refine acG (λσ H2=>∃(mo:Int) (us:List V) (sts:List TrX) (u5 u6:Option V),σ=[some (.ref p),some (.int b),some (.int e),some (.ref l),some (.int mo),u5,u6]/\H2 l=some (.lst us)/\Paired (TpX H2) us sts/\Same H H2/\b<=mo/\(mo<=e->(sts.length:Int)<=2*(mo / 60-b / 60)+lmX sts)/\(e<b->us=[])/\(mo<=e+1∨mo=b)/\us.length<=10000000/\Cov m0 m1 m3 kd kw b sts mo) (λσ _=>match σ[4]? with | some (some (V.int mo))=>(e+1-mo).toNat | _=>0) ⟨b,[],[],_,(),aaA,.nil,aaB hl _,aS _,(λ_=>by rw[Int.sub_self];decide),(λ_=>rfl),.inr rfl,bM _,rfl⟩ ?_
 rintro σ H2 ⟨mo,us,sts,u5,u6,rfl,h2,hP,s2,hbm,hlen,hemp,hend,hsz,hcov⟩;refine⟨(),(),(()),(),ifD (λc=>?_) (λc=>?_)⟩
 ·refine⟨_,λ_ _ h=>h,?_⟩;refine⟨(),p,dx,(),s2 _ _ hp,alD ..,(),p,dx,m0,m1,m3,tmF m1 m0,mo,dv,wv,kd,kw,rfl,s2 _ _ hp,hn,hd.keep s2,hw.keep s2,λy m k H3 ok ed s3=>?_⟩;have s23:=s2.trans s3;obtain⟨tw,etw,hday⟩:=aFS (λz=>hE mo hbm c (aG6 hn hb hg ok ed z));have hwd:ae5 m0 m1 m3 kd kw mo (.str (Tx tw)):=λy' m' k' ok' e'=>by
   obtain⟨rfl,rfl,rfl⟩:=af6 ok ok' (ed.trans e'.symm);exact etw
  rw[etw];refine⟨(),(),(),p,dx,tw,m0,m1,m3,tmF m1 m0,mo,dv,wv,kd,kw,rfl,s23 _ _ hp,hn,hd.keep s23,hw.keep s23,hwd,λr H4 hr1 hr2 hr3 s4=>⟨(),_,(),?_⟩⟩;obtain⟨la,ela⟩:∃la,la=if e<r then e else r:=⟨()⟩
  show ab8 _ (V.int (if e<r then e else r)) _ _ _;rw[←ela];have hla:mo<=la/\la<=e/\(la<e->la=r):=by
   rw[ela];split<;>omega
  have hlen':=hlen c;have pl:=acE hP;have l1:=aCL sts;have g34:∀b' xs,H2 b'=some (.tup xs)->H4 b'=some (.tup xs):=λb' xs z=>s4 _ _ (s3 _ _ z);refine⟨(),(),(),(),l,us,sts,mo,la,tw,rfl,s4 _ _ (s3 _ _ h2),Paired.mapP hP (λ_ _ z=>amS g34 z),⋯,λH5 us' h5 hP5 oth=>?_⟩;refine⟨(),(()),?_⟩;have cv:=axD (tw:=tw) hcov hla.1 (λt a b=>hr3 t a (by rcases (show la<e∨la=e by omega) with w' | w';(· have:=hla.2.2 w';omega);(· rw[ela] at b;split at b<;>omega))) ⟨y,m,k,ok,ed⟩ (aIJ etw)
  have al:=(at0 sts mo la tw).1;have pl5:=acE hP5;refine⟨_,(by show (e+1-(la+1)).toNat<(e+1-mo).toNat;omega),rfl,la+1,us',_,_,(),h5,hP5,λq' o hq=>oth q' o (λz=>by rw[z,hl] at hq;cases hq) (s4 _ _ (s23 _ _ hq)),⋯,(λz=>aDP hlen' hla.1 λn=>?_),(λz=>?_),.inl ⋯,⋯,cv⟩
  ·have:=hr2 n;have:=hla.2.2 ⋯;omega
  ·omega
 ·exact⟨(),q l us sts H2 hl s2 h2 hP hsz (λz=>by rw[show e+1=mo by omega];exact hcov) hemp⟩
theorem al1:Dm P w mg base ZZ.cp 7 (ae7 K aJ aB aE aF aH aD aA aG aI):=by
 refine ZZ.cp.dfs U2 (by trivial) ?_;rintro _ _ _ _ s H _ Q E hr⟨p,dx,m0,m1,m3,tm,k,dv,wv,kd,kw,rfl,hp,hk,hm,hd,hw,q⟩;refine⟨_,(ai1 (aaI 2 (eMe ZZ.ac.cl (ac8 ZZ) hr Y0 (A1 Y1)) U2.nd) (ai1 (aaI 3 (eIx (xTc (K:=K)) (eD (afN ZZ) hr (A1 Y1)) eI) U2.nd) (ss1 (aaH (ajR ["days","self"] [2,0] (iR2 ZZ.aa (A2 eI (eOp aaM Y3 eI))) (λ_ _ _ _ _ _=>fsN) (λ_ _ _ _ _ _=>(eIf (tVa (eD (ahD ZZ) hr (A2 Y1 Y0))) (ae3 (K:=K) Y2) eI))))))),?_⟩
 extract_lets;refine⟨λσ' H'=>σ'=[some (.ref p),some (.int k),some (.int (dIn m3 kd kw k)),none]/\Same H H',⟨(),p,dx,(),hp,acQ ..,(),p,dx,m0,m1,m3,tm,k,dv,wv,kd,kw,rfl,hp,hk,hm,hd,hw,λH1 s1=>⟨rfl,s1⟩⟩,?_⟩;rintro σ' H1 ⟨rfl,s1⟩;have ml:=(adJ hk.1 hk.2).2.1;refine⟨λσ' H'=>σ'=[some (.ref p),some (.int k),some (.int (dIn m3 kd kw k)),some (.int (lnA k))]/\Same H1 H',⟨(),k,rfl,hk,λt H2 s2 h2=>⟨t,_,(()),SqT.of (by rw[aiL] at h2;exact h2),rfl,rfl,s2⟩⟩,?_⟩
 rintro σ' H2 ⟨rfl,s2⟩;refine⟨(),(()),_,(),⟨by decide,by decide,⋯,⋯⟩,adE (λi l=>l=((List.range i).map (aaP tm m3 kd kw k)).map V.int) (by show (lnA k+1-1).toNat<=sizeLine;rw[eU];omega) rfl ?_ ?_⟩
 ·intro i l D H3 E' F' hi hR hD s3 hl hE hF;subst hR;have hp3:=(s1.trans (s2.trans s3)) _ _ hp;have et:(1+(i:Int)).toNat=i+1:=⋯;have fin:∀v:Int,v=aaP tm m3 kd kw k i->E' (.int v) H3:=λv ev=>hE _ _ (Same.refl _) (by rw[ev,List.range_succ,bB,bB];rfl);refine⟨(),(),dIn m3 kd kw k,(),⟨aJF hd hw hk.1 hk.2,⋯⟩,(),?_⟩;rw[et];by_cases c:tb (dIn m3 kd kw k) (i+1)=true
  ·rw[c];exact aa4 ⟨(),p,aJ,dx,_,(),hp3,ZZ.ac.cl,ZZ.a2,amL ..,fin tm (by unfold aaP;rw[if_pos c])⟩
  ·rw[show tb (dIn m3 kd kw k) (i+1)=false by simpa using c];exact aaU (fin 0 (by unfold aaP;rw[if_neg c]))
 ·intro D H3 l hR hD s3 hl;subst hR;refine q D H3 (s1.trans (s2.trans s3)) ?_;rw[hl];unfold acX;rw[show (lnA k+1-1).toNat=(lnA k).toNat by omega]
theorem aDL{HA:Hp}{f c' a p:Addr}{qual:Str}{params:Arguments}{body:Expr}{scope:Scope}{pm ctv:Value}{o0:Obj}{u0:Value}{m0 m1 m3:Int}{kd kw:Ko}(S:LamScope "kind" "row" scope)
  (hb:∀(s:Shared) (u:Value),BindsTo s (PySem.W.kla_fn "<lambda>" qual params body scope [("row",a)] pm (.ref c') ctv) ⟨[u],[]⟩ [("kind",u)])
  (hB:∀(A:Around) (outer:List Env) (s:Shared) (H1:Hp),Room 7 (adM P w K mg base ["kind","row"] qual scope s.heap.objs.size f c' [("row",a)] A outer s H1).A->L2.E (adM P w K mg base ["kind","row"] qual scope s.heap.objs.size f c' [("row",a)] A outer s H1) body (aB3 aJ "on_days" (ae7 K aJ aB aE aF aH aD aA aG aI) [] E0 (aF7 1) (acV (aF7 0) aiM)))
  (hf:HA f=some (acR f (azS qual params body scope "row" a pm c' ctv))) (hc:HA c'=some (aqA c' qual)) (ha:HA a=some (acR a o0)) (ho:o0.data=.cell (some u0)) (r0:RelV (.ref p) u0)
  (hR:RowR (⟨aB,aE,aF,aH,aD,aA,aG,aI⟩:Cs) aJ (era HA a) p m0 m1 m3 kd kw):awD P w K mg base 8 HA f (aaP (tmF m1 m0) m3 kd kw):=by
 refine⟨⟨_,_,_,_,hf⟩,λH1 k Q s1 k0 k1 q=>?_⟩;intro A outer s us hr e0 rv;obtain⟨u,rfl,ru⟩:∃u,us=[u]/\RelV (.int k) u:=by
  cases rv with
  |cons r rn=>cases rn;exact⟨(),r⟩
 obtain⟨dx,dv,wv,hp,hn,hb2,hd,hw⟩:=hR;have se:Same (era HA a) (era H1 a):=λb o e=>by
  obtain⟨nb,e⟩:=aqT e;rw[aaZ nb];exact s1 _ _ e
 refine aKJ S hr e0 (hb s u) ru (s1 _ _ hf) (s1 _ _ hc) (s1 _ _ ha) ho r0 (hB A outer s (era H1 a) (hr.deeper _)) ?_;refine⟨(),p,dx,(),se _ _ hp,ak4 ..,(),p,dx,m0,m1,m3,tmF m1 m0,k,dv,wv,kd,kw,rfl,se _ _ hp,⟨k0,k1⟩,hn.2.2,hd.keep se,hw.keep se,λD H' s' hD na=>q D _ (λb o e=>?_) ?_⟩
 ·by_cases z:b=a
  ·rw[z] at e ⊢;rw[s1 _ _ ha] at e;rw[aaA];exact e
  ·rw[aaD z];exact s' _ _ (by rw[aaZ z];exact e)
 ·rw[aaD (λz=>by rw[z,na] at hD;cases hD)];exact hD
theorem an8:Dx P w base ZZ.c5 9 (aoB P w mg base K):=by
 refine ZZ.c5.dfs an2 (by trivial) ?_;rintro f _ _ _ s H _ Q E hr⟨kn,f,kd,kvs,g,H0,rfl,hk,hkn,hK,hl,hg,h0,s0,hD,q⟩;refine⟨_,(ssL (sIf (tDnt hr Y2 Y0) (ss1 (sDpt hr Y0 Y2 (eD (an6 ZZ) hr (A1 (aI6 (k:=8) hr Y1 (A1 Y2)))))) ssN) (ss1 (aaH (eDg hr Y0 Y2)))),?_⟩;extract_lets;refine⟨(),(),kn,(),DGet.k (k:=.inl kd) hkn,(),?_⟩;cases e:adB kvs (.inl kd) with
 |none=>
  have hF:=azU s0 hD.1;refine aa4 ⟨(),f,rfl,hF,(),hF,hD.2 H kd _ s0 hk.1 hk.2 λD H2 s2 h2=>⟨D,acX g kd,rfl,SqL.of h2,aUQ g hk.1 hk.2,aO7 hg,λH3 s3=>?_⟩⟩;have s23:=s2.trans s3;refine⟨(),(),kn,(),.inl ⟨kvs,.inl kd,s23 _ _ hkn,rfl,by rw[eU];omega,rfl⟩,?_⟩;exact⟨(),(),kn,(),.inl ⟨_,.inl kd,.inl aaA,rfl,(by rw[asN,if_pos rfl];rfl)⟩,q _ _ aaA (aI5 hK kd) (afB _ _ _) λb o n hb=>by rw[aaD n];exact s23 _ _ hb⟩
 |some v=>
  have ev:=hK kd v e;subst ev;exact aaU ⟨(),(),kn,(),.inl ⟨_,.inl kd,.inl hkn,rfl,e.symm⟩,q kvs H hkn hK ⋯ λ_ _ _ hb=>hb⟩
theorem asQ:Dx P w base ZZ.ee 10 (asV P w mg base K):=by
 refine ZZ.ee.dfs Uv (by trivial) ?_;rintro f _ _ _ s H _ Q E hr⟨f,mo,g,rfl,hg,hD,q,q0⟩;refine⟨_,(ssL (aaI 2 (eD (at7 ZZ) hr (A1 Y1)) Uv.nd) (ssL (aaI 3 eDi Uv.nd) (ssL (acZ (iR1 ZZ.aa (A1 (eGl (v:=.int 492) ZZ.ci ⟨()⟩))) (gN 4 Uv.nd) (ssL (aaI 5 (eOp acL (eGl (v:=.int 1440) ZZ.ad ⟨()⟩) (eD (apM ZZ) hr (A3 (eIx (xTc (K:=K)) Y2 eI) (eIx (xTc (K:=K)) Y2 eI) eI))) Uv.nd) (ssL (aaI 6 (eCB aT5 ZZ.bs PyProof.Rows.boot_max (A2 (eOp aa7 Y1 Y5) eI)) Uv.nd) (ssL (aaI 7 (eOp aBV (eD (an8 ZZ) hr (A3 Y3 Y0 (eD (ahC ZZ) hr (A2 (eIx (xTc (K:=K)) Y2 eI) (eIx (xTc (K:=K)) Y2 eI))))) Y6) Uv.nd) (ssL (sIf (tCm oNe Y7 eI) (ss1 (aaH (eOp aaM (eOp aaM Y5 Y6) (eD (ao6 ZZ) hr (A1 Y7))))) ssN) (ss1 (aaI 2 (eD (anO ZZ) hr (A2 (eIx (xTc (K:=K)) Y2 eI) (eIx (xTc (K:=K)) Y2 eI))) Uv.nd)))))) PassesOwn.never) (ss1 (aaH eN))))),?_⟩
 extract_lets;have hc:=aiW hg;refine⟨(),mo,rfl,λM0 t0 H1 s1 a1 a2 ht0=>λkn hkn=>?_⟩;have hkH:H kn=none:=by
  cases z:H kn with
  |none=>rfl
  |some o=>rw[s1 _ _ z] at hkn;cases hkn
 have sk:=aaB hkn (.dK []);refine⟨(),by decide,by decide,abG (λi σ H2=>∃(tt:Addr) (kvs:List (Key×V)) (u4 u5 u6 u7:Option V),σ=[some (.ref f),some (.int mo),some (.ref tt),some (.ref kn),u4,u5,u6,u7]/\H2 tt=some (.tup [.int ((M0+i) / 12),.int ((M0+i)%12+1)])/\H2 kn=some (.dK kvs)/\aB1 g kvs/\kvs.length<=i/\Same H H2/\∀t,mo<=t->t<SM (M0+i)->¬EvG g t) ⟨t0,[],_,_,_,(),by rw[show M0+((0:Nat):Int)=M0 by omega];exact sk _ _ ht0,aaA,λ_ _ z=>(by cases z),aQ _,s1.trans sk,λt h1 h2=>by rw[show M0+((0:Nat):Int)=M0 by omega] at h2;unfold SM at h2;omega⟩ ?turn ?done⟩
 case done=>
  rintro σ H2 ⟨tt,kvs,u4,u5,u6,u7,rfl,htt,hk2,hK,hl,s2,hno⟩;exact q0 H2 s2 (avE hc a1 a2 hno)
 case turn=>
  rintro i σ H2 hi ⟨tt,kvs,u4,u5,u6,u7,rfl,htt,hk2,hK,hl,s2,hno⟩;obtain⟨M,eM⟩:∃M,M=M0+(i:Int):=⟨()⟩;rw[←eM] at htt hno;have hi2:i<492:=hi;have lm:=ab9 M;refine⟨(),tt,_,(()),SqT.of (htt),rfl,(),tt,_,(()),SqT.of (htt),rfl,(M / 12),(M%12+1),1,rfl,⟨⟨⋯,⋯⟩,⋯,by have h:28<=aaF (M / 12) (M%12+1):=lm.1;omega⟩,λH3 s3=>⟨(()),.inl ⟨by decide,by decide⟩,?_⟩⟩;have eS:1440*(db (M / 12)+ahead (M / 12) (M%12+1)+1-1)=SM M:=by unfold SM aaV;omega
  show ab8 _ (V.int (1440*(db (M / 12)+ahead (M / 12) (M%12+1)+1-1))) _ _ _;rw[eS];refine⟨(),(),(()),_,(),?_⟩;show ab8 _ (V.int (if 0>mo-SM M then 0 else mo-SM M)) _ _ _;rw[aKX];have s23:=s2.trans s3;refine⟨(),(),(),tt,_,(()),SqT.of (s3 _ _ htt),rfl,(),tt,_,(()),SqT.of (s3 _ _ htt),rfl,(M / 12),(M%12+1),rfl,⟨⋯,⋯⟩,λH4 s4=>?_⟩;have s24:=s23.trans s4;refine⟨kn,f,aa5 M,kvs,g,H,rfl,afU M,s4 _ _ (s3 _ _ hk2),hK,⋯,hg,hkH,s24,hD,λkvs' H5 h5 hK5 hl5 k5=>?_⟩
  have s5:Same H H5:=λb o hb=>k5 b o (λz=>by rw[z,hkH] at hb;cases hb) (s24 _ _ hb);have nt:tt≠kn:=λz=>by rw[z,hk2] at htt;cases htt
  have ht5:H5 tt=_:=k5 tt _ nt (s4 _ _ (s3 _ _ htt));refine⟨(),(()),(by show (0:Int)<=max (mo-SM M) 0;omega),?_⟩;refine⟨(),rfl,(),azQ (λc=>?_) (λc=>?_)⟩
  ·have X0:0<WM g M / 2^(max (mo-SM M) 0).toNat:=by
    have:0<=WM g M / 2^(max (mo-SM M) 0).toNat:=dW (hc.nn M) (bN (aaN _));have c':¬WM g M / 2^(max (mo-SM M) 0).toNat=0:=c;omega
   obtain⟨l,hl',hj⟩:=aB7 X0;obtain⟨b1,b2,b3⟩:=ayN hc hno hl' hj;have far:=aB0 M0 492;have a1':SM M0<=mo:=a1;have up:=hc.mono (show M+1<=M0+(492:Nat) by omega);have hb':=hc.bit M _ (by rw[←ad6 (hc.nn M)];exact hl');refine⟨(),(),(()),(),_,l,rfl,X0,hl',hj,(()),q _ H5 s5 b1 b2 b3 ?_⟩;omega
  ·refine⟨(),tt,_,(()),SqT.of (ht5),rfl,(),tt,_,(()),SqT.of (ht5),rfl,M,rfl,λt6 H6 s6 h6=>?_⟩;refine⟨t6,kvs',_,_,_,(),by rw[show M0+((i+1:Nat):Int)=M+1 by omega];exact h6,s6 _ _ h5,hK5,⋯,s5.trans s6,?_⟩;rw[show M0+((i+1:Nat):Int)=M+1 by omega];exact avW hc hno c
theorem arT:Df P w K mg base "next_from" 11 ["row","moment"] (apY K aB aE aF aH aD aA aG aI aJ aK aL):=by
 refine ZZ.dk.dfs UE (by trivial) ?_;rintro _ A outer s H _ Q E hr⟨p,mo,m0,m1,m3,kd,kw,rfl,hR,hT,q⟩;refine⟨_,(ssL (aaI 2 (aKD "row" 0 (asQ ZZ) hr (A2 (eLam ZZ.cw) Y1)) UE.nd) (ssL (sIf (tCm aeI Y2 eN) (ss1 (aaH (abE (A2 eN (abO aN))))) ssN) (ss1 (aaH (abE (A2 Y2 (eD (auR ZZ) hr (A3 Y0 Y1 (eOp aa7 Y2 eI))))))))),?_⟩;extract_lets;delta aF6 ayR aA3 acV;refine azV (tN:=aK) hT.1 hT.2 (λf' HL hL=>⟨(),(),λha o0 u0 ho r0=>?_⟩)
 obtain⟨hf0,sN,⟨c',ctv,hf,hc⟩,t1⟩:=hL;have nf:f'≠_:=λz=>by rw[z,ha] at hf;cases hf
 have nc:c'≠_:=λz=>by rw[z,ha] at hc;cases hc
 have hg:=hR.ok;have tab:∀{H'},Same HL H'->awA H' aK aL:=λs=>ajI s ⟨t1,aoJ sN hT.2⟩;refine⟨f',mo,aaP (tmF m1 m0) m3 kd kw,rfl,hg,?hD,λe H' s' ev h1 h2 h3=>⟨s' _ _ aaA,?_⟩,λH' s' hno=>⟨s' _ _ aaA,?_⟩⟩
 case hD=>
  refine aDL ZZ ?hS ?hB1 ?hB2 ((aaD nf).trans hf) ((aaD nc).trans hc) aaA ho r0 (RowR.keepN (sN.trans (aeW (al0 ha (Same.refl _)))) hR)
  case hS=>exact⟨rfl,rfl,rfl,by decide +kernel,rfl,rfl,by decide +kernel,by decide +kernel⟩
  case hB1=>exact λs u=>.of_eq rfl
  case hB2=>exact λA outer s H1 hr=>eMe ZZ.ac.cl (al1 ZZ) hr (v_ 1) (aC (v_ 0) aN)
 ·have sE:=al0 ha s';have sNE:=sN.trans (aeW sE);refine⟨(),rfl,(),ifD (λc=>by cases c) (λ_=>?_)⟩;refine⟨(),(),(),(),(()),p,mo,(e-1),m0,m1,m3,kd,kw,rfl,RowR.keepN sNE hR,λt a b=>h2 t a ⋯,⋯,λl us sts H2 hl s2 hl2 hP hsz hcv hemp=>⟨(zL 2),λt ht=>?_⟩⟩;have s3:=s2.trans (aaB ht (.tup [.int e,.ref l]));exact q t l us _ (.int e) (sNE.trans (aeW s3)) (tab (sE.trans s3)) (ar7 sNE hl) aaA (aaB ht _ _ _ hl2) (.inl ⟨e,rfl,ev,⟨h1,h2⟩,(λz=>hemp ⋯),hsz,sts,Paired.mapP hP (λ_ _ z=>amS (λb xs hb=>aaB ht _ _ _ hb) z),(by have z:=hcv ⋯;rw[show e-1+1=e by omega] at z;exact z)⟩)
 ·have sE:=al0 ha s';have sNE:=sN.trans (aeW sE);refine⟨(),rfl,(),ifD (λ_=>?_) (λc=>absurd rfl c)⟩;refine⟨(zL 0),λl hl=>⟨(zL 2),λt ht=>?_⟩⟩;have s3:=(aaB hl (.lst [])).trans (aaB ht (.tup [.non,.ref l]));exact q t l [] _ .non (sNE.trans (aeW s3)) (tab (sE.trans s3)) (ar7 sNE hl) aaA (aaB ht _ _ _ aaA) (.inr ⟨rfl,rfl,hno⟩)
theorem aeS:Dx P w base ZZ.cd 1 (ak8 K):=by
 refine ZZ.cd.dfs ak7 (by trivial) ?_;rintro _ _ _ _ s H _ Q E hr⟨a,k,rfl,⟨ns,hS⟩,⟨h0,h9⟩,q⟩;refine⟨_,(ssL (sIf (tCm oLt Y1 (eCB (afA (K:=K)) ZZ.ag PySem.boot_len (A1 Y0))) (ss1 (aaH (eIx (xLc (K:=K)) Y0 Y1))) ssN) (ss1 (aaH (eOp abD (eOp acL (eOp aAC (eOp aaM Y1 eI) eI) eI) eI)))),?_⟩;extract_lets;refine⟨(),(),a,(),.inl hS,(()),(),?_⟩;refine ifD (λc=>?_) (λc=>?_)
 ·rw[aR] at c;have hk:k.toNat<ns.length:=⋯;have ek:k=((k.toNat:Nat):Int):=⋯;have e:atI (ns.map V.int) k=some (.int ns[k.toNat]):=by
   have z:atI (ns.map V.int) ((k.toNat:Nat):Int)=some (.int ns[k.toNat]):=ahQ (by rw[bC,bW hk];rfl);rw[←ek] at z;exact z
  refine⟨(),(),a,_,(()),hS,e,?_⟩;exact q _
 ·refine⟨(),(()),(()),⟨by decide,by decide,(by show (k+2).natAbs<2^64;omega)⟩,(()),.inr ⟨by decide,by decide⟩,(()),(by show (0:Int)<15485863;decide),?_⟩;exact q _
theorem aqF:Dx P w base ZZ.dl 1 (arN K):=by
 refine ZZ.dl.dfs Uj (by trivial) ?_;rintro _ _ _ _ s H _ Q E hr⟨n,rfl,q⟩;refine⟨_,(ssL (aaI 1 (eOp abD (eOp acL (eOp aaM (eOp abD Y0 (eOp aAC eI eI)) eI) eI) eI) Uj.nd) (ssL (aaI 2 (eOp abD (eOp acL Y1 (eOp aaM (eOp abD Y1 eI) eI)) eI) Uj.nd) (ss1 (aaH (eOp abD (eOp acL Y2 (eOp aaM (eOp abD Y2 eI) eI)) eI))))),?_⟩;extract_lets;refine⟨(),(()),⟨by decide,by decide,by decide⟩,(()),(by rw[aTG];show (0:Int)<_;decide),(()),(()),.inr ⟨by decide,by decide⟩,(()),(by show (0:Int)<4294967291;decide),?_⟩
 refine⟨(),(),(()),(by show (0:Int)<65521;decide),(()),(()),aNQ (by decide) (by decide),(()),(by show (0:Int)<999999937;decide),?_⟩;refine⟨(),(),(()),(by show (0:Int)<32749;decide),(()),(()),aNQ (by decide) (by decide),(()),(by show (0:Int)<2147483629;decide),?_⟩;exact q _ (cG _ (by decide)) (dF _ (by decide))
theorem abX:Dx P w base ZZ.cq 2 (am7 K):=by
 refine ZZ.cq.dfs U9 (by trivial) ?_;rintro _ _ _ _ s H _ Q E hr⟨c,a,b,ss,rfl,hS,hz,hl,q⟩;refine⟨_,(ssL (aaI 3 (abO aN) U9.nd) (ssL (aaI 2 (eOr Y2 (ae4 (acD oLt (eCB aNB ZZ.d1 PyProof.Rows.boot_abs (A1 Y0)) (eOp aAC eI eI)))) U9.nd) (ssL (acZ (iLc (K:=K) Y1) (gN 4 U9.nd) (ss1 (sIf (tVa Y2) (ssL (aaI 0 (eD (aqF ZZ) hr (A1 Y0)) U9.nd) (ss1 (an1 (aqS Y3 (eOp abD (eOp acM Y0 eI) Y4))))) (ssL (an1 (aqS Y3 (eOp abD Y0 Y4))) (ss1 (aaI 0 (eOp acM Y0 Y4) U9.nd))))) PassesOwn.never) (ss1 (aaH Y3))))),?_⟩
 extract_lets;refine⟨(zL 0),λfl hfl=>?_⟩;refine⟨(),(),aIM (λ_=>?_) (λ_=>⟨(),(),(()),⟨by decide,by decide,by decide⟩,(()),?_⟩)⟩
 all_goals
  refine⟨(),a,rfl,⟨_,(aaB hfl _).seq hS⟩,ab7 (K:=K) (a:=a) (xs:=ss.map V.int) (λi σ H2=>∃(c':Int) (b':Bool) (u:Option V) (ds:List Int),σ=[some (.int c'),some (.ref a),some (.bl b'),some (.ref fl),u]/\Same H H2/\H2 fl=some (.lst (ds.map V.int))/\Digs ds (ss.take i)) ⟨_,_,_,[],rfl,aaB hfl _,aaA,.nil⟩ (λi σ H2 _ ⟨_,_,_,_,_,s2,_⟩=>s2.seq hS) ?_ ?_⟩
  ·rintro i x σ H2 hx ⟨c',b',u,ds,rfl,s2,hf,hd⟩;rw[bC] at hx;cases e:ss[i]? with
   |none=>rw[e] at hx;cases hx
   |some z=>
    rw[e] at hx;obtain rfl:V.int z=x:=aZ hx;have hzz:=hz z (bU e);have et:ss.take (i+1)=ss.take i++[z]:=by rw[b8,e];rfl
    have hdl:(ds.map V.int).length<sizeLine:=by
     have q1:=hd.len;rw[dE] at q1;rw[aR,eU];omega
    have app:∀d:Int,(ds.map V.int)++[V.int d]=(ds++[d]).map V.int:=λd=>by rw[bB];rfl
    refine⟨(),(),?_⟩;cases b' with
    |true=>
     refine aa4 ⟨(),(),λr hr0 hr1=>?_⟩;refine⟨(),.inl ⟨rfl,_,SqL.of hf⟩,(),(()),⟨by decide,by decide⟩,(),(()),hzz.1,fl,(()),hf,hdl,?_⟩;refine⟨_,_,_,ds++[r / 8%z],rfl,ab6 hfl s2,by rw[app];exact aaA,?_⟩;rw[et];exact hd.snoc (cG _ (Int.ne_of_gt hzz.1)) (dF _ hzz.1)
    |false=>
     refine aaU ⟨(),.inl ⟨rfl,_,SqL.of hf⟩,(),(),(()),hzz.1,fl,(()),hf,hdl,?_⟩;refine⟨(),(),(()),hzz,?_⟩;refine⟨_,_,_,ds++[c'%z],rfl,ab6 hfl s2,by rw[app];exact aaA,?_⟩;rw[et];exact hd.snoc (cG _ (Int.ne_of_gt hzz.1)) (dF _ hzz.1)
  ·rintro σ H2 ⟨c',b',u,ds,rfl,s2,hf,hd⟩;rw[aR,cQ] at hd;exact⟨(),q ds fl H2 s2 hf hd⟩
theorem aeE:Dx P w base ZZ.dm 1 (apZ K):=by
 refine ZZ.dm.dfs Ua (by trivial) ?_;rintro _ _ A _ s H _ Q E hr⟨p,fm,fi,la,st,lo,hi,rfl,hp,hb,q⟩;refine⟨_,(ssL (akX Y0 (aKV (gsC (gN 3 Ua.nd) (gsC (gN 4 Ua.nd) (gsC (gN 5 Ua.nd) (gsC (gN 6 Ua.nd) gsN)))))) (ssL (aaI 4 (eOp aaM Y1 (eOp abD Y4 (eOp aaM (eOp aa7 Y2 Y1) eI))) Ua.nd) (ssL (aaI 5 (eOp aaM Y4 (eOp abD Y5 (eOp aaM (eOp aa7 Y2 Y4) eI))) Ua.nd) (ssL (aaI 6 (eOp aaM eI (eOp abD Y6 eI)) Ua.nd) (ssL (sIf (tCm oEq Y3 eI) (ss1 (aaH (abE (A2 (eSx [42]) (eCT cLR ZZ.an PyProof.Rows.boot_list (A1 (eCT aQF ZZ.aa fA (A2 Y1 (eOp aaM Y2 eI))))))))) ssN) (ssL (sIf (tCm oEq Y3 eI) (ss1 (aaH (abE (A2 (eOp ac5 (eSx [42,47]) (eCT ac1 ZZ.ae PyProof.Rows.boot_str (A1 Y6))) (eCT cLR ZZ.an PyProof.Rows.boot_list (A1 (eCT aEG ZZ.aa fA (A3 Y1 (eOp aaM Y2 eI) Y6)))))))) ssN) (ssL (sIf (tCm oEq Y3 eI) (ss1 (aaH (abE (A2 (eCT ac1 ZZ.ae PyProof.Rows.boot_str (A1 Y4)) (abO (A1 Y4)))))) ssN) (ssL (sIf (tCm oEq Y3 eI) (ss1 (aaH (abE (A2 (eOp ac5 (eOp ac5 (eCT ac1 ZZ.ae PyProof.Rows.boot_str (A1 Y4)) (eSx [45])) (eCT ac1 ZZ.ae PyProof.Rows.boot_str (A1 Y5))) (eCT cLR ZZ.an PyProof.Rows.boot_list (A1 (eCT aQF ZZ.aa fA (A2 Y4 (eOp aaM Y5 eI))))))))) ssN) (ssL (sIf (tCm oEq Y3 eI) (ss1 (aaH (abE (A2 (eOp ac5 (eOp ac5 (eOp ac5 (eOp ac5 (eCT ac1 ZZ.ae PyProof.Rows.boot_str (A1 Y4)) (eSx [45])) (eCT ac1 ZZ.ae PyProof.Rows.boot_str (A1 Y5))) (eSx [47])) (eCT ac1 ZZ.ae PyProof.Rows.boot_str (A1 Y6))) (eCT cLR ZZ.an PyProof.Rows.boot_list (A1 (eCT aEG ZZ.aa fA (A3 Y4 (eOp aaM Y5 eI) Y6)))))))) ssN) (ss1 (aaH (abE (A2 (eOp ac5 (eOp ac5 (eCT ac1 ZZ.ae PyProof.Rows.boot_str (A1 Y4)) (eSx [47])) (eCT ac1 ZZ.ae PyProof.Rows.boot_str (A1 Y6))) (eCT cLR ZZ.an PyProof.Rows.boot_list (A1 (eCT aEG ZZ.aa fA (A3 Y4 (eOp aaM Y2 eI) Y6))))))))))))))))),?_⟩
 extract_lets;have p1:0<hi-lo+1:=⋯;have m0:=cG fi (show (hi-lo+1)≠0 by omega);have m1:=dF fi p1;refine⟨(),p,(),hp,rfl,_,(),_,(),_,(),(()),?_⟩;refine⟨(),(),(),(),(()),(()),(()),p1,(()),?_⟩;obtain⟨A,eA⟩:∃A,A=lo+fi%(hi-lo+1):=⟨()⟩;have a1:lo<=A/\A<=hi:=⋯;show ab8 4 (V.int (lo+fi%(hi-lo+1))) _ _ _;rw[←eA];have p2:0<hi-A+1:=⋯;have n0:=cG la (show (hi-A+1)≠0 by omega);have n1:=dF la p2;refine⟨(),(),(),(),(()),(()),(()),p2,(()),?_⟩
 obtain⟨B,eB⟩:∃B,B=A+la%(hi-A+1):=⟨()⟩;have b1:A<=B/\B<=hi:=⋯;show ab8 5 (V.int (A+la%(hi-A+1))) _ _ _;rw[←eB];have s0:=cG st (show (99:Int)≠0 by decide);have s1:=dF st (show (0:Int)<99 by decide);refine⟨(),(()),(by show (0:Int)<99;decide),(()),?_⟩;obtain⟨S,eS⟩:∃S,S=1+st%99:=⟨()⟩;have ss:1<=S/\S<=99:=⋯;show ab8 6 (V.int (1+st%99)) _ _ _;rw[←eS];have sm:∀z:Int,0<=z->z<=99->z.toNat<10^500/\[V.int z]=[V.int (z.toNat:Nat)]:=λz h1 h2=>⟨bA (show z.toNat<100 by omega) (by decide +kernel),by rw[bK h1]⟩
 have nl:∀z:Int,0<=z->z<=99->(num z.toNat).length<=2:=λz h1 h2=>(ajS _ ⋯).2.2.2;have na:∀z:Int,0<=z->z<=99->Asc (num z.toNat):=λz h1 h2=>axA _ ⋯;have z4':∀{n m:Nat},n<=20->m<=20->n+m<=sizeLine:=λ{n m} h1 h2=>by rw[eU];omega
 have hA0:0<=A:=bR hb.1 a1.1;have hA31:A<=63:=bR a1.2 hb.2.2;have hB0:0<=B:=bR hA0 b1.1;have hB31:B<=63:=bR b1.2 hb.2.2;have hl31:lo<=63:=bR hb.2.1 hb.2.2;have hh0:0<=hi:=bR hb.1 hb.2.1;have hS0:0<S:=Int.lt_of_lt_of_le (by decide) ss.1;have hSm:S<=1000:=bR ss.2 (by decide);have hSx:S<1073741824:=Int.lt_of_le_of_lt ss.2 (by decide);have up:∀{z:Int},z<=63->z<=1000/\z<=99:=λh=>⟨bR h (by decide),bR h (by decide)⟩
 have dn:∀{z:Int},0<=z-> -1<=z:=λh=>bR (by decide) h;have tn:∀{n:Nat},n<=1001->n<=100000:=λh=>bL h (by decide);have t2:∀{n:Nat},n<=2->n<=20/\n+1<=20:=λh=>⟨bL h (by decide),bL (Nat.add_le_add_right h 1) (by decide)⟩;have t5:∀{n m:Nat},n<=2->m<=2->n+1+m<=20/\n+1+m+1<=20:=λh h'=>⟨bL (Nat.add_le_add (Nat.add_le_add_right h 1) h') (by decide),bL (Nat.add_le_add_right (Nat.add_le_add (Nat.add_le_add_right h 1) h') 1) (by decide)⟩
 have qA:=sm A hA0 (up hA31).2;have qB:=sm B hB0 (up hB31).2;have qS:=sm S (bN hS0) ss.2;have lA:=nl A hA0 (up hA31).2;have lB:=nl B hB0 (up hB31).2;have lS:=nl S (bN hS0) ss.2;have cA:=na A hA0 (up hA31).2;have cB:=na B hB0 (up hB31).2;have cS:=na S (bN hS0) ss.2;have c42:Asc [42]:=acS rfl;have c45:Asc [45]:=acS rfl;have c47:Asc [47]:=acS rfl;clear m0 m1 n0 n1 p1 p2 eA eB s0 s1 eS;refine⟨(),rfl,(),ifI (λc=>?g0) (λ_=>⟨(),rfl,(),ifI (λc=>?g1) (λ_=>⟨(),rfl,(),ifI (λc=>?g2) (λ_=>⟨(),rfl,(),ifI (λc=>?g3) (λ_=>⟨(),rfl,(),ifI (λc=>?g4) (λ_=>?g5)⟩)⟩)⟩)⟩)⟩
 case g0=>
  have n2:=aeG (a:=lo) (b:=hi) (s:=1) hb.1 (up hb.2.2).1 (by decide);refine⟨(),(),(()),_,(),λr hr=>⟨r,lo,hi+1,1,(Builtin.Range.rangeSize lo (hi+1) 1).toNat,rfl,aaA,ad1 hb.1 (up hl31).1 (dn hh0) (up hb.2.2).1 (by decide) (by decide),n2.2,tn n2.1,λu hu=>⟨(zL 2),λt ht=>?_⟩⟩⟩;exact q t u [42] (adS lo hi 1) _ ((aaB hr _).trans ((aaB hu _).trans (aaB ht _))) aaA ((aaB ht _) _ _ (by rw[acY,bY];exact aaA)) (i0 hb.1 hb.2.1 hb.2.2) c42
 case g1=>
  have n2:=aeG (a:=lo) (b:=hi) (s:=S) hb.1 (up hb.2.2).1 hS0;refine⟨(),S.toNat,qS.2,qS.1,(()),z4' (by decide) (t2 lS).1,(),(),(()),(),_,_,(),⟨hS0,hSx⟩,λr hr=>⟨r,lo,hi+1,S,(Builtin.Range.rangeSize lo (hi+1) S).toNat,rfl,aaA,ad1 hb.1 (up hl31).1 (dn hh0) (up hb.2.2).1 hS0 hSm,n2.2,tn n2.1,λu hu=>⟨(zL 2),λt ht=>?_⟩⟩⟩;exact q t u _ (adS lo hi S) _ ((aaB hr _).trans ((aaB hu _).trans (aaB ht _))) aaA ((aaB ht _) _ _ (by rw[acY,bY];exact aaA)) (i3 hb.1 hb.2.1 hb.2.2 ss) (abS (acS rfl) cS)
 case g2=>
  refine⟨(),A.toNat,qA.2,qA.1,(),(zL 1),λu hu=>⟨(zL 2),λt ht=>?_⟩⟩;exact q t u _ [A] _ ((aaB hu _).trans (aaB ht _)) aaA ((aaB ht _) _ _ aaA) (i1 hb.1 a1.1 a1.2 hb.2.2) cA
 case g3=>
  have n2:=aeG (a:=A) (b:=B) (s:=1) hA0 (up hB31).1 (by decide);refine⟨(),A.toNat,qA.2,qA.1,(()),z4' (t2 lA).1 (by decide),(),B.toNat,qB.2,qB.1,(()),z4' (by rw[aY];exact (t2 lA).2) (t2 lB).1,(),(),(()),_,(),λr hr=>⟨r,A,B+1,1,(Builtin.Range.rangeSize A (B+1) 1).toNat,rfl,aaA,ad1 hA0 (up hA31).1 (dn hB0) (up hB31).1 (by decide) (by decide),n2.2,tn n2.1,λu hu=>⟨(zL 2),λt ht=>?_⟩⟩⟩;exact q t u _ (adS A B 1) _ ((aaB hr _).trans ((aaB hu _).trans (aaB ht _))) aaA ((aaB ht _) _ _ (by rw[acY,bY];exact aaA)) (by rw[d8];exact i2 hb.1 a1.1 b1.1 b1.2 hb.2.2) (abS (abS cA c45) cB)
 case g4=>
  have n2:=aeG (a:=A) (b:=B) (s:=S) hA0 (up hB31).1 hS0;refine⟨(),A.toNat,qA.2,qA.1,(()),z4' (t2 lA).1 (by decide),(),B.toNat,qB.2,qB.1,(()),z4' (by rw[aY];exact (t2 lA).2) (t2 lB).1,(()),z4' (by rw[aY,aY];exact (t5 lA lB).1) (by decide),(),S.toNat,qS.2,qS.1,(()),z4' (by rw[aY,aY,aY];exact (t5 lA lB).2) (t2 lS).1,(),(),(()),(),_,_,(),⟨hS0,hSx⟩,λr hr=>⟨r,A,B+1,S,(Builtin.Range.rangeSize A (B+1) S).toNat,rfl,aaA,ad1 hA0 (up hA31).1 (dn hB0) (up hB31).1 hS0 hSm,n2.2,tn n2.1,λu hu=>⟨(zL 2),λt ht=>?_⟩⟩⟩
  have e5:((num A.toNat++[45])++num B.toNat++[47])++num S.toNat=(num A.toNat++45::num B.toNat)++47::num S.toNat:=by simp
  exact q t u _ (adS A B S) _ ((aaB hr _).trans ((aaB hu _).trans (aaB ht _))) aaA ((aaB ht _) _ _ (by rw[acY,bY];exact aaA)) (by rw[e5];exact i5 hb.1 a1.1 b1.1 b1.2 hb.2.2 ss) (abS (abS (abS (abS cA c45) cB) c47) cS)
 case g5=>
  have n2:=aeG (a:=A) (b:=hi) (s:=S) hA0 (up hb.2.2).1 hS0;refine⟨(),A.toNat,qA.2,qA.1,(()),z4' (t2 lA).1 (by decide),(),S.toNat,qS.2,qS.1,(()),z4' (by rw[aY];exact (t2 lA).2) (t2 lS).1,(),(),(()),(),_,_,(),⟨hS0,hSx⟩,λr hr=>⟨r,A,hi+1,S,(Builtin.Range.rangeSize A (hi+1) S).toNat,rfl,aaA,ad1 hA0 (up hA31).1 (dn hh0) (up hb.2.2).1 hS0 hSm,n2.2,tn n2.1,λu hu=>⟨(zL 2),λt ht=>?_⟩⟩⟩;exact q t u _ (adS A hi S) _ ((aaB hr _).trans ((aaB hu _).trans (aaB ht _))) aaA ((aaB ht _) _ _ (by rw[acY,bY];exact aaA)) (by rw[d8];exact i4 hb.1 a1.1 a1.2 hb.2.2 ss) (abS (abS cA c47) cS)
theorem acP:Dx P w base ZZ.ce 3 (alB K):=by
 refine ZZ.ce.dfs Ug (by trivial) ?_;rintro _ _ _ _ s H _ Q E hr⟨c,lo,hi,bm,rfl,hb,q⟩;refine⟨_,(ssL (aaI 4 (eOp aaM (eOp aa7 Y2 Y1) eI) Ug.nd) (ssL (aaI 5 (eD (abX ZZ) hr (A3 Y0 (eOp aD4 (abO (A1 eI)) (eOp aCC (abO (aC eI (A3 Y4 Y4 eI))) eI)) Y3)) Ug.nd) (ssL (aaI 6 (abO aN) Ug.nd) (ssL (aaI 7 (abO aN) Ug.nd) (ssL (acZ (iR1 ZZ.aa (A1 (eOp aaM eI (eIx (xLc (K:=K)) Y5 eI)))) (gN 8 Ug.nd) (ssL (akX (eD (aeE ZZ) hr (A3 (eSl (azY (K:=K)) Y5 (poS (eOp aaM eI (eOp acL eI Y8))) (poS (eOp aaM eI (eOp acL eI Y8)))) Y1 Y2)) (alA (K:=K) (gsC (gN 9 Ug.nd) (gsC (gN 10 Ug.nd) gsN)))) (ssL (an1 (aqS Y6 Y9)) (ss1 (aaI 7 (eOp aQN Y7 (v_ 10)) Ug.nd)))) PassesOwn.never) (ss1 (aaH (abE (A2 (axT (eSx [44]) Y6) Y7))))))))),?_⟩
 extract_lets;have hwd:(0:Int)<hi-lo+1/\hi-lo+1<1073741824:=⋯;refine⟨(),(),(()),(()),?_⟩;obtain⟨W,eW⟩:∃W,W=hi-lo+1:=⟨()⟩;show ab8 4 (V.int (hi-lo+1)) _ _ _;rw[←eW];have e13:∀z∈([3,6,W,W,99,6,W,W,99,6,W,W,99]:List Int),0<z/\z<1073741824:=λz hz=>by
  simp only[aX,cF,or_false] at hz;omega
 refine⟨(),(zL 1),λx1 n1=>⟨(),(),(zL 4),λx2 n2=>⟨x2,3,(),rfl,aaA,(by decide),(by decide),(zL 12),λx3 n3=>⟨x1,x3,(()),(aaB n3 _) _ _ ((aaB n2 _) _ _ aaA),aaA,(zL 13),λls hls=>⟨(),c,ls,bm,[3,6,W,W,99,6,W,W,99,6,W,W,99],rfl,SqL.of aaA,e13,(by show 13<=63;decide),λds p H3 s3 hp hd=>?_⟩⟩⟩⟩⟩;have s13:Same H H3:=(aaB n1 _).trans ((aaB n2 _).trans ((aaB n3 _).trans ((aaB hls _).trans s3)));obtain⟨d0,e0,k0,k1⟩:=adP (i:=0) hd rfl
 refine⟨(zL 0),λT hT=>⟨(zL 0),λN0 hN0=>?_⟩⟩;have s1:=(aaB hT (.lst [])).trans (aaB hN0 (.lst []));have hTN:T≠N0:=λe=>by rw[←e,aaA] at hN0;cases hN0
 refine⟨(),p,_,(()),SqL.of (s1 _ _ hp),aeD e0,(()),(),?lo,?hi,abG (λi σ H2=>∃(v8 v9 v10:Option V) (N:Addr) (ws:List (List Nat)) (nss:List (List Int)),σ=[some (.int c),some (.int lo),some (.int hi),some (.bl bm),some (.int W),some (.ref p),some (.ref T),some (.ref N),v8,v9,v10]/\T≠N/\Same H3 H2/\H2 T=some (.lst (ws.map λx=>V.str (Tx x)))/\H2 N=some (.lst (nss.flatten.map V.int))/\Paired (aeK lo hi) ws nss/\ws.length=i) ⟨_,_,_,N0,[],[],rfl,hTN,s1,by rw[aaD hTN];exact aaA,aaA,.nil,rfl⟩ ?turn ?done⟩
 case lo=>omega
 case hi=>omega
 case turn=>
  rintro i σ H2 hi' ⟨v8,v9,v10,N,ws,nss,rfl,tn,s2p,h2,h3,hP,lw⟩;have hi3:i<3:=⋯;obtain⟨w1,w2,w3,w4,ec,_⟩:∃w1 w2 w3 w4:Int,ai7 (ds.map V.int) (some (1+4*(0+(i:Int)))) (some (5+4*(0+(i:Int))))=[.int w1,.int w2,.int w3,.int w4]/\True:=by
   obtain⟨w1,w2,w3,w4,ec,_⟩:=aAZ (j:=1+4*i) (s0:=6) (s1:=W) (s2:=W) (s3:=99) hd (by match i,hi3 with | 0,_=>rfl | 1,_=>rfl | 2,_=>rfl) (show 1+4*(0+(i:Int))=((1+4*i:Nat):Int) by omega) (show 5+4*(0+(i:Int))=((1+4*i:Nat):Int)+4 by omega)
   exact⟨w1,w2,w3,w4,ec,trivial⟩
  refine⟨(),(),(()),.inl ⟨by decide,by decide⟩,(()),(),(),(()),.inl ⟨by decide,by decide⟩,(()),(),p,(),SqL.of (s2p _ _ hp),λpc hpc=>?_⟩;rw[ec];have s5:=aaB hpc (.lst [V.int w1,V.int w2,V.int w3,V.int w4]);refine⟨(),(),pc,w1,w2,w3,w4,lo,hi,rfl,SqL.of aaA,⟨hb.1,⋯,⋯⟩,λt u tw ns H6 s6 ht hu it _=>?_⟩;have s26:Same H2 H6:=s5.trans s6;refine⟨t,(),SqT.of ht,rfl,_,(),(()),?_⟩;have hT6:H6 T=some (.lst (ws.map λx=>V.str (Tx x))):=s26 _ _ h2
  have hN6:H6 N=some (.lst (nss.flatten.map V.int)):=s26 _ _ h3;have ia:=ac0 hP;refine⟨(),.inl ⟨rfl,_,SqL.of hT6⟩,(),T,(()),hT6,(by rw[aR,eU];omega),?_⟩;have hne2:u≠T:=λe=>by
   rw[e,hT6] at hu;have hz:=it.2.2.2.1;cases ws with
   |nil=>cases ns with
    |nil=>exact hz rfl
    |cons x y=>cases hu
   |cons x y=>cases ns with
    |nil=>exact hz rfl
    |cons x' y'=>cases hu
  refine⟨(),(),N,u,(()),SqL.of (by rw[aaD (Ne.symm tn)];exact hN6),SqL.of (by rw[aaD hne2];exact hu),(by rw[aR,aR,eU];have:=it.2.2.2.2;omega),λN' hN'=>?_⟩;have hN'T:T≠N':=λe=>by rw[←e,aaA] at hN';cases hN'
  refine⟨_,_,_,N',ws++[tw],nss++[ns],rfl,hN'T,?_,?_,?_,ab4 hP it,by rw[aY,bX,lw]⟩
  ·exact (ab6 hT (s2p.trans s26)).trans (aaB hN' _)
  ·rw[aaD hN'T,bB];exact aaA
  ·rw[List.flatten_append,List.flatten_singleton,bB];exact aaA
 case done=>
  rintro σ H2 ⟨v8,v9,v10,N,ws,nss,rfl,tn,s2p,h2,h3,hP,lw⟩;have ia:=ac0 hP;have hlen:=ad3 ws λx hx=>(ia.1 x hx).2.2;have hne:ws≠[]:=λe=>by rw[e] at lw;simp at lw;omega
  refine⟨rfl,(),44,T,ws,rfl,rfl,SqL.of h2,⋯,(),(zL 2),λt ht=>?_⟩;exact q t N _ nss.flatten _ (s13.trans (s2p.trans (aaB ht _))) aaA ((aaB ht _) _ _ h3) ia.2.1 (aFH hP hne) (by have:=ia.2.2;omega) (auT hP hne ⋯)
theorem acJ:Dx P w base ZZ.c6 1 (an5 K):=by
 refine ZZ.c6.dfs anU (by trivial) ?_;rintro _ _ _ _ s H _ Q E hr⟨y,rfl,q⟩;refine⟨_,(ss1 (aaH (eOp aaM (eOp aa7 (eOp aaM (eOp acL eI Y0) (eOp acM (eOp aaM Y0 eI) eI)) (eOp acM (eOp aaM Y0 eI) eI)) (eOp acM (eOp aaM Y0 eI) eI)))),?_⟩;have e:db y=365*y+(y+3) / 4-(y+99) / 100+(y+399) / 400:=by rw[aj7];omega
 rw[e] at q;exact⟨(),(()),.inl ⟨by decide,by decide⟩,(),(()),(()),⟨by decide,by decide⟩,(()),(),(()),(()),⟨by decide,by decide⟩,(()),(),(()),(()),⟨by decide,by decide⟩,(()),q⟩
theorem al7:Dx P w base ZZ.cr 3 (am1 K):=by
 refine ZZ.cr.dfs Uc (by trivial) ?_;rintro _ _ _ _ s H _ Q E hr⟨c,bm,rfl,q⟩;refine⟨_,(ssL (aaI 2 (eD (abX ZZ) hr (A3 Y0 (abO (ar5 [2401,4,366,3,3,1440,8])) eB)) Uc.nd) (ssL (sIf (tW (wOr (tW (ajW (tNo (tVa Y1)) (aeM (tCm oGe (eCB aNB ZZ.d1 PyProof.Rows.boot_abs (A1 Y0)) (eOp aAC eI eI))))) (ae9 (tCm oEq (eIx (xLc (K:=K)) Y2 eI) eI)))) (ss1 (aaH (eOp aa7 (eOp abD Y0 (eOp aaM (eOp acL eI (eOp aAC eI eI)) eI)) (eOp aAC eI eI)))) ssN) (ssL (aaI 3 (eOp aa7 (eIx (xLc (K:=K)) Y2 eI) eI) Uc.nd) (ssL (aaI 4 (eOp aa7 (eOp aaM (eD (acJ ZZ) hr (A1 Y3)) (eIx (xLc (K:=K)) (abO (aC eI (A3 eI eI (eIx (xLc (K:=K)) Y2 eI)))) (eIx (xLc (K:=K)) Y2 eI))) (eIx (xLc (K:=K)) Y2 eI)) Uc.nd) (ss1 (aaH (eOp aaM (eOp acL eI Y4) (eIx (xLc (K:=K)) (abO (A3 eI eI (eIx (xLc (K:=K)) Y2 eI))) (eIx (xLc (K:=K)) Y2 eI))))))))),?_⟩
 extract_lets;have e7:∀z∈([2401,4,366,3,3,1440,8]:List Int),0<z/\z<1073741824:=by decide
 refine⟨(),(zL 7),λls hls=>⟨c,ls,true,[2401,4,366,3,3,1440,8],rfl,SqL.of aaA,e7,(by decide),λds p H1 s0 hp hd=>?_⟩⟩;have s1:=(aaB hls (.lst [V.int 2401,V.int 4,V.int 366,V.int 3,V.int 3,V.int 1440,V.int 8])).trans s0;obtain⟨d0,d1,d2,d3,d4,d5,d6,rfl,k1,k4⟩:∃d0 d1 d2 d3 d4 d5 d6:Int,ds=[d0,d1,d2,d3,d4,d5,d6]/\(0<=d1/\d1<4)/\0<=d4/\d4<3:=by cases hd with | cons g0 r=>cases r with | cons g1 r=>cases r with | cons g2 r=>cases r with | cons g3 r=>cases r with | cons g4 r=>cases r with | cons g5 r=>cases r with | cons g6 r=>cases r;exact⟨_,_,_,_,_,_,(),g1,g4⟩
 obtain⟨ee,hee⟩:=ax2 (zs:=[0,59,365,d2]) (i:=d1) k1.1 k1.2;obtain⟨tt,htt⟩:=ax2 (zs:=[0,1439,d5]) (i:=d4) k4.1 k4.2;refine⟨(),(),?_⟩;cases bm with
 |true=>
  refine aaU (aaU ⟨(),p,_,(()),SqL.of (hp),rfl,rfl,(),ifI (λ_=>?a) (λ_=>?b)⟩)
  case a=>exact⟨(),(()),⟨by decide,by decide,by decide⟩,(()),.inl ⟨by decide,by decide⟩,(()),(()),(by rw[aAV];show (0:Int)<_;decide),(()),⟨by decide,by decide,by decide⟩,(()),q _ _ s1⟩
  case b=>exact⟨(),p,_,(()),SqL.of (hp),rfl,(()),(),(),⟨(),p,_,(()),SqL.of (hp),rfl,(zL 4),λl1 h1=>⟨(),p,_,(()),SqL.of ((aaB h1 _) _ _ hp),rfl,l1,_,(()),SqL.of aaA,hee,(()),(),p,_,(()),SqL.of ((aaB h1 _) _ _ hp),rfl,(()),(),(()),.inl ⟨by decide,by decide⟩,(),p,_,(()),SqL.of ((aaB h1 _) _ _ hp),rfl,(zL 3),λl2 h2=>⟨(),p,_,(()),SqL.of ((aaB h2 _) _ _ ((aaB h1 _) _ _ hp)),rfl,l2,_,(()),SqL.of aaA,htt,(()),q _ _ (s1.trans ((aaB h1 _).trans (aaB h2 _)))⟩⟩⟩⟩
 |false=>
  refine aa4 ⟨(),(),(()),⟨by decide,by decide,by decide⟩,(()),(),ifD (λ_=>aa4 ?a0) (λ_=>⟨(),p,_,(()),SqL.of (hp),rfl,rfl,(),ifI (λ_=>?a) (λ_=>?b)⟩)⟩
  case a0=>exact⟨(),(()),⟨by decide,by decide,by decide⟩,(()),.inl ⟨by decide,by decide⟩,(()),(()),(by rw[aAV];show (0:Int)<_;decide),(()),⟨by decide,by decide,by decide⟩,(()),q _ _ s1⟩
  case a=>exact⟨(),(()),⟨by decide,by decide,by decide⟩,(()),.inl ⟨by decide,by decide⟩,(()),(()),(by rw[aAV];show (0:Int)<_;decide),(()),⟨by decide,by decide,by decide⟩,(()),q _ _ s1⟩
  case b=>exact⟨(),p,_,(()),SqL.of (hp),rfl,(()),(),(),⟨(),p,_,(()),SqL.of (hp),rfl,(zL 4),λl1 h1=>⟨(),p,_,(()),SqL.of ((aaB h1 _) _ _ hp),rfl,l1,_,(()),SqL.of aaA,hee,(()),(),p,_,(()),SqL.of ((aaB h1 _) _ _ hp),rfl,(()),(),(()),.inl ⟨by decide,by decide⟩,(),p,_,(()),SqL.of ((aaB h1 _) _ _ hp),rfl,(zL 3),λl2 h2=>⟨(),p,_,(()),SqL.of ((aaB h2 _) _ _ ((aaB h1 _) _ _ hp)),rfl,l2,_,(()),SqL.of aaA,htt,(()),q _ _ (s1.trans ((aaB h1 _).trans (aaB h2 _)))⟩⟩⟩⟩
theorem ar0:Dx P w base ZZ.dn 3 (aqN K):=by
 refine ZZ.dn.dfs U8 (by trivial) ?_;rintro _ _ _ _ s H _ Q E hr⟨c,bm,rfl,q⟩;refine⟨_,(ssL (aaI 2 (eD (abX ZZ) hr (A3 Y0 (eOp aD4 (abO (A2 eI eI)) (eOp aCC (abO (ar5 [8,6,31,31,99])) eI)) Y1)) U8.nd) (ssL (aaI 3 (abO aN) U8.nd) (ssL (aaI 4 (abO aN) U8.nd) (ssL (acZ (iR1 ZZ.aa (A1 (eOp aaM eI (eIx (xLc (K:=K)) Y2 eI)))) (gN 5 U8.nd) (ssL (akX (eSl (azY (K:=K)) Y2 (poS (eOp aaM eI (eOp acL eI Y5))) (poS (eOp aaM eI (eOp acL eI Y5)))) (aKV (gsC (gN 6 U8.nd) (gsC (gN 7 U8.nd) (gsC (gN 8 U8.nd) (gsC (gN 9 U8.nd) (gsC (gN 10 U8.nd) gsN))))))) (ssL (akX (eD (aeE ZZ) hr (A3 (abO (aC Y7 (A3 Y8 Y9 (v_ 10)))) eI eI)) (alA (K:=K) (gsC (gN 11 U8.nd) (gsC (gN 12 U8.nd) gsN)))) (ai1 (aaI 13 (abE (A3 (eSx [110,117,109]) (v_ 12) eI)) U8.nd) (ai1 (sIf (tCm oEq Y6 eI) (ss1 (akX (abE (A2 (eSx [76]) (abE (A3 (eSx [108,97,115,116]) eI eI)))) (alA (K:=K) (gsC (gN 11 U8.nd) (gsC (gN 13 U8.nd) gsN))))) ssN) (ai1 (sIf (tCm oEq Y6 eI) (ss1 (aFY 11 13 (A2 (eOp ac5 (eSx [76,45]) (eCT ac1 ZZ.ae PyProof.Rows.boot_str (A1 (eOp aaM eI (eOp abD Y8 eI))))) (abE (A3 (eSx [108,97,115,116]) (eOp aaM eI (eOp abD Y8 eI)) eI))) U8.nd)) ssN) (ai1 (sIf (tCm oEq Y6 eI) (ss1 (aFY 11 13 (A2 (eOp ac5 (eCT ac1 ZZ.ae PyProof.Rows.boot_str (A1 (eOp aaM eI Y8))) (eSx [87])) (abE (A3 (eSx [110,101,97,114]) (eOp aaM eI Y8) eI))) U8.nd)) ssN) (ai1 (sIf (tCm oEq Y6 eI) (ss1 (akX (abE (A2 (eSx [76,87]) (abE (A3 (eSx [119,111,114,107]) eI eI)))) (alA (K:=K) (gsC (gN 11 U8.nd) (gsC (gN 13 U8.nd) gsN))))) ssN) (ssL (an1 (aqS Y3 (v_ 11))) (ss1 (an1 (aqS Y4 (v_ 13)))))))))))) PassesOwn.never) (ssL (sIf (tW (wOr (tCm oEq (eIx (xLc (K:=K)) Y2 eI) eI) (ae9 (tCm (aNG hr.units) Y3 (abO (A1 (eSx [42]))))))) (ss1 (aaH (abE (A2 (eSx [42]) eN)))) ssN) (ss1 (aaH (abE (A2 (axT (eSx [44]) Y3) Y4))))))))),?_⟩
 extract_lets;have e17:∀z∈([3,3,8,6,31,31,99,8,6,31,31,99,8,6,31,31,99]:List Int),0<z/\z<1073741824:=by decide +kernel
 refine⟨(),(zL 2),λx1 n1=>⟨(zL 5),λx2 n2=>⟨x2,3,(),rfl,aaA,(by decide),(by decide),(zL 15),λx3 n3=>⟨x1,x3,(()),(aaB n3 _) _ _ ((aaB n2 _) _ _ aaA),aaA,(zL 17),λls hls=>⟨(),c,ls,bm,[3,3,8,6,31,31,99,8,6,31,31,99,8,6,31,31,99],rfl,SqL.of aaA,e17,(by show 17<=63;decide),λds p H3 s3 hp hd=>?_⟩⟩⟩⟩⟩;have s13:Same H H3:=(aaB n1 _).trans ((aaB n2 _).trans ((aaB n3 _).trans ((aaB hls _).trans s3)));obtain⟨d0,e0,_,_⟩:=adP (i:=0) hd rfl
 obtain⟨d1,e1,k0,k1⟩:=adP (i:=1) hd rfl;refine⟨(zL 0),λT hT=>⟨(zL 0),λS hSn=>?_⟩⟩;have s1:=(aaB hT (.lst [])).trans (aaB hSn (.lst []));have hTS:T≠S:=λe=>by rw[←e,aaA] at hSn;cases hSn
 have hSn':H3 S=none:=by rw[aaD (Ne.symm hTS)] at hSn;exact hSn
 refine⟨(),p,_,(()),SqL.of (s1 _ _ hp),aeD e1,(()),(),?lo,?hi,abG (InE false c bm p T S H3) ⟨_,_,_,_,_,_,_,_,_,[],[],[],rfl,s1,by rw[aaD hTS];exact aaA,aaA,.nil,(λk hk=>nomatch hk),(λw hw=>nomatch hw),rfl,rfl,.nil⟩ ?turn ?done⟩
 case lo=>omega
 case hi=>omega
 case turn=>
  rintro i σ H2 hi' ⟨v5,v6,v7,v8,v9,v10,v11,v12,v13,ws,us,ks,rfl,s2p,h2,h3,hW,hO,hA,lw,lu,hPM⟩;have hi3:i<3:=⋯;obtain⟨w1,w2,w3,w4,w5,ec,k3⟩:=ar8 (j:=2+5*i) (s0:=8) (s1:=6) (s2:=31) (s3:=31) (s4:=99) hd (by match i,hi3 with | 0,_=>rfl | 1,_=>rfl | 2,_=>rfl) (show 2+5*(0+(i:Int))=((2+5*i:Nat):Int) by omega) (show 7+5*(0+(i:Int))=((2+5*i:Nat):Int)+5 by omega)
  refine⟨(),(),(()),.inl ⟨by decide,by decide⟩,(()),(),(),(()),.inl ⟨by decide,by decide⟩,(()),(),p,(),SqL.of (s2p _ _ hp),λpc hpc=>?_⟩;rw[ec];refine⟨pc,(),SqL.of aaA,rfl,_,(),_,(),_,(),_,(),(()),?_⟩;have s5:=aaB hpc (.lst [V.int w1,V.int w2,V.int w3,V.int w4,V.int w5]);refine⟨(),(),(),(),(zL 4),λqa hqa=>⟨qa,w2,w3,w4,w5,1,31,rfl,SqL.of aaA,⟨by decide,by decide,by decide⟩,λt u0 tw ns H6 s6 ht hu it asc=>?_⟩⟩
  have s26:Same H2 H6:=s5.trans ((aaB hqa _).trans s6);refine⟨t,(),SqT.of ht,rfl,_,(),(()),?_⟩;have hin:=it.2.2.1;have hlen':=it.2.2.2.2;have hpos:=ajU it.2.2.2.1 (λn hn=>by have:=hin n hn;omega);refine⟨(WdE false c bm p T S i w1 w2 w3 w4 w5 u0 H2),⟨(),(zL 3),λmk hmk=>⟨tw,.num (aaG ns),mk,rfl,s26.trans (aaB hmk _),⟨it.2.1,rfl,it.1,hpos⟩,⟨rfl,rfl,bN hpos⟩,asc,⟨mk,_,_,(),acI (abQ (s26 _ _ h2) hmk) (abQ (s26 _ _ h3) hmk) aaA,rfl,u0,ns,rfl,acI (ayF hu it.2.2.2.1 (s26 _ _ h2) (aEO ws)) (ayF hu it.2.2.2.1 (s26 _ _ h3) (aED us)) (aaB hmk _ _ _ hu),rfl,hin⟩⟩⟩,?_⟩
  rintro σ' H7 ⟨tw',k',mk,rfl,s7,hcs,hok,ha,hmk⟩;refine⟨(WdE false c bm p T S i w1 w2 w3 w4 w5 u0 H2),?_,?_⟩
  ·refine⟨(),rfl,(),ifI (λc=>?_) (λ_=>⟨tw',k',mk,rfl,s7,hcs,hok,ha,hmk⟩)⟩;refine⟨(zL 3),λu hu=>⟨(zL 2),λt2 ht2=>⟨t2,(),SqT.of aaA,rfl,_,(),(()),?_⟩⟩⟩;exact⟨[76],.lst 0,u,rfl,s7.trans ((aaB hu _).trans (aaB ht2 _)),⟨aBI.2,aBI.1⟩,⟨rfl,rfl,by decide,by decide⟩,acS rfl,⟨u,_,_,(),acI (abQ (s7 _ _ h2) hu) (abQ (s7 _ _ h3) hu) (aaB ht2 _ _ _ aaA),rfl,rfl⟩⟩
  rintro σ' H7 ⟨tw',k',mk,rfl,s7,hcs,hok,ha,hmk⟩;refine⟨(WdE false c bm p T S i w1 w2 w3 w4 w5 u0 H2),?_,?_⟩
  ·obtain⟨n1,n2,n3,n4,n5,n6⟩:=aGG w3;refine⟨(),rfl,(),ifI (λc=>?_) (λ_=>⟨tw',k',mk,rfl,s7,hcs,hok,ha,hmk⟩)⟩;refine⟨(),(()),(by show (0:Int)<30;decide),(()),(1+w3%30).toNat,n2,n1,(()),n3,(),(()),(by show (0:Int)<30;decide),(()),(zL 3),λu hu=>?_⟩;exact⟨_,(),⟨_,.lst (1+w3%30),u,rfl,s7.trans (aaB hu _),n4,n5,n6,⟨u,_,_,(),acI (abQ (s7 _ _ h2) hu) (abQ (s7 _ _ h3) hu) aaA,rfl,rfl⟩⟩⟩
  rintro σ' H7 ⟨tw',k',mk,rfl,s7,hcs,hok,ha,hmk⟩;refine⟨(WdE false c bm p T S i w1 w2 w3 w4 w5 u0 H2),?_,?_⟩
  ·obtain⟨n1,n2,n3,n4,n5,n6⟩:=aEL k3.1 k3.2;refine⟨(),rfl,(),ifI (λc=>?_) (λ_=>⟨tw',k',mk,rfl,s7,hcs,hok,ha,hmk⟩)⟩;refine⟨(),(()),(1+w3).toNat,n2,n1,(()),n3,(),(()),(zL 3),λu hu=>?_⟩;exact⟨_,(),⟨_,.nea (1+w3),u,rfl,s7.trans (aaB hu _),n4,n5,n6,⟨u,_,_,(),acI (abQ (s7 _ _ h2) hu) (abQ (s7 _ _ h3) hu) aaA,rfl,rfl⟩⟩⟩
  rintro σ' H7 ⟨tw',k',mk,rfl,s7,hcs,hok,ha,hmk⟩;refine⟨(WdE false c bm p T S i w1 w2 w3 w4 w5 u0 H2),?_,?_⟩
  ·refine⟨(),rfl,(),ifI (λc=>?_) (λ_=>⟨tw',k',mk,rfl,s7,hcs,hok,ha,hmk⟩)⟩;refine⟨(zL 3),λu hu=>⟨(zL 2),λt2 ht2=>⟨t2,(),SqT.of aaA,rfl,_,(),(()),?_⟩⟩⟩;exact⟨[76,87],.wrk,u,rfl,s7.trans ((aaB hu _).trans (aaB ht2 _)),⟨aBW.2,aBW.1⟩,⟨rfl,rfl,trivial⟩,acS rfl,⟨u,_,_,(),acI (abQ (s7 _ _ h2) hu) (abQ (s7 _ _ h3) hu) (aaB ht2 _ _ _ aaA),rfl⟩⟩
  rintro σ' H7 ⟨tw',k',mk,rfl,s7,hcs,hok,ha,hmk⟩;have hT6:H7 T=some (.lst (ws.map λx=>V.str (Tx x))):=s7 _ _ h2;have hS6:H7 S=some (.lst (us.map V.ref)):=s7 _ _ h3;refine⟨(),.inl ⟨rfl,_,SqL.of hT6⟩,(),T,(()),hT6,(by rw[aR,eU];omega),?_⟩;have hS7:(upd H7 T (.lst ((ws.map λx=>V.str (Tx x))++[.str (Tx tw')]))) S=some (.lst (us.map V.ref)):=by rw[aaD (Ne.symm hTS)];exact hS6
  refine⟨(),.inl ⟨rfl,_,SqL.of hS7⟩,(),S,(()),hS7,(by rw[aR,eU];omega),?_⟩;refine⟨_,_,_,_,_,_,_,_,_,ws++[tw'],us++[mk],ks++[k'],rfl,ab6 hSn' (ab6 hT (s2p.trans s7)),?_,(by rw[bB];exact aaA),avX hW hcs,(λk hk=>(bO.mp hk).elim (hO k) λz=>by rw[bJ.mp z];exact hok),(λw hw=>(bO.mp hw).elim (hA w) λz=>by rw[bJ.mp z];exact ha),(by rw[aY,bX,lw]),(by rw[aY,bX,lu]),?_⟩
  ·rw[aaD hTS,bB];exact aaA
  ·rw[aCO,aCB,bB];exact ab4 (Paired.mapP hPM λ_ _ z=>z.keep (axC s7)) hmk
 case done=>
  rintro σ H2 ⟨v5,v6,v7,v8,v9,v10,v11,v12,v13,ws,us,ks,rfl,s2p,h2,h3,hW,hO,hA,lw,lu,hPM⟩;have hlen:=ad3 ws λx hx=>(hW.cl x hx).2.2;have hne:ws≠[]:=λe=>by rw[e] at lw;simp at lw;omega
  have star:∀{H4:Hp},Same H2 H4->∀t,H4 t=none->Q (.ref t) (upd H4 t (.tup [.str (Tx [42]),.non])):=λs4 t ht=>q t [42] .non none _ (s13.trans (s2p.trans (s4.trans (aaB ht _)))) aaA (alQ false) (.inl ⟨rfl,rfl⟩);refine⟨(),p,_,(()),SqL.of (s2p _ _ hp),aeD e0,rfl,(),ifI (λ_=>aa4 ⟨(zL 2),star (Same.refl _)⟩) (λ_=>⟨(),(zL 1),λl1 hl1=>?_⟩)⟩;have sl:=aaB hl1 (.lst [V.str (Tx [42])]);refine⟨T,l1,ws,[[42]],rfl,rfl,SqL.of (sl _ _ h2),SqL.of aaA,hA,(λw hw=>by rw[bJ.mp hw];exact acS rfl),(),ifD (λ_=>⟨(zL 2),star sl⟩) (λnst=>?_)⟩
  refine⟨rfl,(),44,T,ws,rfl,rfl,SqL.of (sl _ _ h2),⋯,(),(zL 2),λt ht=>?_⟩;have sF:=sl.trans (aaB ht (.tup [.str (Tx (aaY 44 ws)),.ref S]));exact q t _ (.ref S) (some ks) _ (s13.trans (s2p.trans sF)) aaA (alL hW hne ⋯ hO (λz=>nst (aoK hW z))) (.inr ⟨S,_,ks,rfl,rfl,sF _ _ h3,Paired.mapP hPM (λ_ _ z=>(z.keep atF).keep sF),λk hk=>(hO k hk).2.2⟩)
theorem ai8:Dx P w base ZZ.b1 3 (ai9 K):=by
 refine ZZ.b1.dfs Uo (by trivial) ?_;rintro _ _ _ _ s H _ Q E hr⟨c,bm,rfl,q⟩;refine⟨_,(ssL (aaI 2 (eD (abX ZZ) hr (A3 Y0 (eOp aD4 (abO (A2 eI eI)) (eOp aCC (abO (ar5 [6,6,8,8,99])) eI)) Y1)) Uo.nd) (ssL (aaI 3 (abO aN) Uo.nd) (ssL (aaI 4 (abO aN) Uo.nd) (ssL (acZ (iR1 ZZ.aa (A1 (eOp aaM eI (eIx (xLc (K:=K)) Y2 eI)))) (gN 5 Uo.nd) (ssL (akX (eSl (azY (K:=K)) Y2 (poS (eOp aaM eI (eOp acL eI Y5))) (poS (eOp aaM eI (eOp acL eI Y5)))) (aKV (gsC (gN 6 Uo.nd) (gsC (gN 7 Uo.nd) (gsC (gN 8 Uo.nd) (gsC (gN 9 Uo.nd) (gsC (gN 10 Uo.nd) gsN))))))) (ssL (akX (eD (aeE ZZ) hr (A3 (abO (aC Y7 (A3 Y8 Y9 (v_ 10)))) eI eI)) (alA (K:=K) (gsC (gN 11 Uo.nd) (gsC (gN 12 Uo.nd) gsN)))) (ai1 (aaI 13 (abE (A3 (eSx [119,101,101,107]) (ajR [] [] (iLc (K:=K) (v_ 12)) (λ_ _ _ _ _ _=>fsN) (λ_ _ _ _ _ _=>(eOp abD Y0 eI))) eI)) Uo.nd) (ai1 (sIf (tW (wOr (tCm oEq Y6 eI) (ae9 (tCm oEq Y6 eI)))) (ss1 (aFY 11 13 (A2 (eOp ac5 (eOp ac5 (eCT ac1 ZZ.ae PyProof.Rows.boot_str (A1 Y8)) (eSx [35])) (eCT ac1 ZZ.ae PyProof.Rows.boot_str (A1 (eOp aaM eI (eOp abD Y9 eI))))) (abE (A3 (eSx [110,116,104]) (eOp abD Y8 eI) (eOp aaM eI (eOp abD Y9 eI))))) Uo.nd)) ssN) (ai1 (sIf (tCm oEq Y6 eI) (ss1 (aFY 11 13 (A2 (eOp ac5 (eCT ac1 ZZ.ae PyProof.Rows.boot_str (A1 Y8)) (eSx [76])) (abE (A3 (eSx [101,110,100,105,110,103]) (eOp abD Y8 eI) eI))) Uo.nd)) ssN) (ssL (an1 (aqS Y3 (v_ 11))) (ss1 (an1 (aqS Y4 (v_ 13)))))))))) PassesOwn.never) (ssL (sIf (tW (wOr (tCm oEq (eIx (xLc (K:=K)) Y2 eI) eI) (ae9 (tCm (aNG hr.units) Y3 (abO (A1 (eSx [42]))))))) (ss1 (aaH (abE (A2 (eSx [42]) eN)))) ssN) (ss1 (aaH (abE (A2 (axT (eSx [44]) Y3) Y4))))))))),?_⟩
 extract_lets;have e17:∀z∈([3,3,6,6,8,8,99,6,6,8,8,99,6,6,8,8,99]:List Int),0<z/\z<1073741824:=by decide +kernel
 refine⟨(),(zL 2),λx1 n1=>⟨(zL 5),λx2 n2=>⟨x2,3,(),rfl,aaA,(by decide),(by decide),(zL 15),λx3 n3=>⟨x1,x3,(()),(aaB n3 _) _ _ ((aaB n2 _) _ _ aaA),aaA,(zL 17),λls hls=>⟨(),c,ls,bm,[3,3,6,6,8,8,99,6,6,8,8,99,6,6,8,8,99],rfl,SqL.of aaA,e17,(by show 17<=63;decide),λds p H3 s3 hp hd=>?_⟩⟩⟩⟩⟩;have s13:Same H H3:=(aaB n1 _).trans ((aaB n2 _).trans ((aaB n3 _).trans ((aaB hls _).trans s3)));obtain⟨d0,e0,_,_⟩:=adP (i:=0) hd rfl
 obtain⟨d1,e1,k0,k1⟩:=adP (i:=1) hd rfl;refine⟨(zL 0),λT hT=>⟨(zL 0),λS hSn=>?_⟩⟩;have s1:=(aaB hT (.lst [])).trans (aaB hSn (.lst []));have hTS:T≠S:=λe=>by rw[←e,aaA] at hSn;cases hSn
 have hSn':H3 S=none:=by rw[aaD (Ne.symm hTS)] at hSn;exact hSn
 refine⟨(),p,_,(()),SqL.of (s1 _ _ hp),aeD e1,(()),(),?lo,?hi,abG (InE true c bm p T S H3) ⟨_,_,_,_,_,_,_,_,_,[],[],[],rfl,s1,by rw[aaD hTS];exact aaA,aaA,.nil,(λk hk=>nomatch hk),(λw hw=>nomatch hw),rfl,rfl,.nil⟩ ?turn ?done⟩
 case lo=>omega
 case hi=>omega
 case turn=>
  rintro i σ H2 hi' ⟨v5,v6,v7,v8,v9,v10,v11,v12,v13,ws,us,ks,rfl,s2p,h2,h3,hW,hO,hA,lw,lu,hPM⟩;have hi3:i<3:=⋯;obtain⟨w1,w2,w3,w4,w5,ec,k3⟩:=ar8 (j:=2+5*i) (s0:=6) (s1:=6) (s2:=8) (s3:=8) (s4:=99) hd (by match i,hi3 with | 0,_=>rfl | 1,_=>rfl | 2,_=>rfl) (show 2+5*(0+(i:Int))=((2+5*i:Nat):Int) by omega) (show 7+5*(0+(i:Int))=((2+5*i:Nat):Int)+5 by omega)
  refine⟨(),(),(()),.inl ⟨by decide,by decide⟩,(()),(),(),(()),.inl ⟨by decide,by decide⟩,(()),(),p,(),SqL.of (s2p _ _ hp),λpc hpc=>?_⟩;rw[ec];refine⟨pc,(),SqL.of aaA,rfl,_,(),_,(),_,(),_,(),(()),?_⟩;have s5:=aaB hpc (.lst [V.int w1,V.int w2,V.int w3,V.int w4,V.int w5]);refine⟨(),(),(),(),(zL 4),λqa hqa=>⟨qa,w2,w3,w4,w5,0,7,rfl,SqL.of aaA,⟨by decide,by decide,by decide⟩,λt u0 tw ns H6 s6 ht hu it asc=>?_⟩⟩
  have s26:Same H2 H6:=s5.trans ((aaB hqa _).trans s6);refine⟨t,(),SqT.of ht,rfl,_,(),(()),?_⟩;have hin:=it.2.2.1;have hlen':=it.2.2.2.2;have hpos:=ajU it.2.2.2.1 (λn hn=>by have:=hin n hn;omega);refine⟨(WdE true c bm p T S i w1 w2 w3 w4 w5 u0 H2),?_,?_⟩
  ·refine⟨(),u0,rfl,⟨_,SqL.of hu⟩,aoM (xs:=ns.map V.int) (λi z=>z=((ns.take i).map λd=>V.int (d%7))) (by rw[aR,eU];omega) rfl (SqL.of hu) ?_ ?_⟩
   ·intro i v z D H4 E' F' hv hR hD s4 hz hE hF;subst hR;rw[bC] at hv;cases ez:ns[i]? with
    |none=>rw[ez] at hv;cases hv
    |some d=>
     rw[ez] at hv;obtain rfl:V.int d=v:=aZ hv;exact⟨(),(()),(by show (0:Int)<7;decide),hE _ _ (Same.refl _) (by rw[b8,ez,bB];rfl)⟩
   ·intro D H4 z hR hD s4 hz;subst hR;rw[aR,cQ] at hz;have hz':H4 D=some (.lst ((ns.map λd=>d%7).map V.int)):=by rw[hz,bY];rfl
    have hlt:=al6 (n:=8) (λz hz=>by have:=hin z hz;omega);have e256:(2:Int)^8=256:=by decide
    have w7:=aHJ hpos (show aaG ns<=255 by omega);have em:=aET hin;refine⟨(zL 3),λmk hmk=>⟨tw,.wkd (wk7 (aaG ns)),mk,rfl,s26.trans (s4.trans (aaB hmk _)),⟨it.2.1,rfl,aaG ns,it.1,⟨hpos,⋯⟩,rfl⟩,⟨rfl,rfl,w7.2.1,w7.2.2⟩,asc,⟨mk,_,_,(),acI (abQ ((s26.trans s4) _ _ h2) hmk) (abQ ((s26.trans s4) _ _ h3) hmk) aaA,rfl,D,(),acI (abQ (s26 _ _ h2) hD) (abQ (s26 _ _ h3) hD) (aaB hmk _ _ _ hz'),em,λn hn=>?_⟩⟩⟩;obtain⟨d,_,rfl⟩:=bD.mp hn
    omega
  rintro σ' H7 ⟨tw',k',mk,rfl,s7,hcs,hok,ha,hmk⟩;refine⟨(WdE true c bm p T S i w1 w2 w3 w4 w5 u0 H2),?_,?_⟩
  ·obtain⟨⟨p1,p2,p3⟩,⟨n1,n2,n3⟩,n4,n5,n6⟩:=aJT (v:=w4) k3.1 k3.2;refine⟨(),rfl,(),ifI (λc=>aa4 ?_) (λ_=>⟨(),rfl,(),ifI (λc=>?_) (λ_=>⟨tw',k',mk,rfl,s7,hcs,hok,ha,hmk⟩)⟩)⟩
   all_goals
    refine⟨(),w3.toNat,p2,p1,(()),p3,(),(()),(by show (0:Int)<5;decide),(()),(1+w4%5).toNat,n2,n1,(()),n3,(),(()),(by show (0:Int)<7;decide),(),(()),(by show (0:Int)<5;decide),(()),(zL 3),λu hu=>?_⟩;exact⟨_,(),⟨_,.nth (w3%7) (1+w4%5),u,rfl,s7.trans (aaB hu _),n4,n5,n6,⟨u,_,_,(),acI (abQ (s7 _ _ h2) hu) (abQ (s7 _ _ h3) hu) aaA,rfl,rfl,rfl⟩⟩⟩
  rintro σ' H7 ⟨tw',k',mk,rfl,s7,hcs,hok,ha,hmk⟩;refine⟨(WdE true c bm p T S i w1 w2 w3 w4 w5 u0 H2),?_,?_⟩
  ·obtain⟨n1,n2,n3,n4,n5,n6⟩:=aJU k3.1 k3.2;refine⟨(),rfl,(),ifI (λc=>?_) (λ_=>⟨tw',k',mk,rfl,s7,hcs,hok,ha,hmk⟩)⟩;refine⟨(),w3.toNat,n2,n1,(()),n3,(),(()),(by show (0:Int)<7;decide),(zL 3),λu hu=>?_⟩;exact⟨_,(),⟨_,.one (w3%7),u,rfl,s7.trans (aaB hu _),n4,n5,n6,⟨u,_,_,(),acI (abQ (s7 _ _ h2) hu) (abQ (s7 _ _ h3) hu) aaA,rfl,rfl⟩⟩⟩
  rintro σ' H7 ⟨tw',k',mk,rfl,s7,hcs,hok,ha,hmk⟩;have hT6:H7 T=some (.lst (ws.map λx=>V.str (Tx x))):=s7 _ _ h2;have hS6:H7 S=some (.lst (us.map V.ref)):=s7 _ _ h3;refine⟨(),.inl ⟨rfl,_,SqL.of hT6⟩,(),T,(()),hT6,(by rw[aR,eU];omega),?_⟩;have hS7:(upd H7 T (.lst ((ws.map λx=>V.str (Tx x))++[.str (Tx tw')]))) S=some (.lst (us.map V.ref)):=by rw[aaD (Ne.symm hTS)];exact hS6
  refine⟨(),.inl ⟨rfl,_,SqL.of hS7⟩,(),S,(()),hS7,(by rw[aR,eU];omega),?_⟩;refine⟨_,_,_,_,_,_,_,_,_,ws++[tw'],us++[mk],ks++[k'],rfl,ab6 hSn' (ab6 hT (s2p.trans s7)),?_,(by rw[bB];exact aaA),avX hW hcs,(λk hk=>(bO.mp hk).elim (hO k) λz=>by rw[bJ.mp z];exact hok),(λw hw=>(bO.mp hw).elim (hA w) λz=>by rw[bJ.mp z];exact ha),(by rw[aY,bX,lw]),(by rw[aY,bX,lu]),?_⟩
  ·rw[aaD hTS,bB];exact aaA
  ·rw[aCO,aCB,bB];exact ab4 (Paired.mapP hPM λ_ _ z=>z.keep (axC s7)) hmk
 case done=>
  rintro σ H2 ⟨v5,v6,v7,v8,v9,v10,v11,v12,v13,ws,us,ks,rfl,s2p,h2,h3,hW,hO,hA,lw,lu,hPM⟩;have hlen:=ad3 ws λx hx=>(hW.cl x hx).2.2;have hne:ws≠[]:=λe=>by rw[e] at lw;simp at lw;omega
  have star:∀{H4:Hp},Same H2 H4->∀t,H4 t=none->Q (.ref t) (upd H4 t (.tup [.str (Tx [42]),.non])):=λs4 t ht=>q t [42] .non none _ (s13.trans (s2p.trans (s4.trans (aaB ht _)))) aaA (alQ true) (.inl ⟨rfl,rfl⟩);refine⟨(),p,_,(()),SqL.of (s2p _ _ hp),aeD e0,rfl,(),ifI (λ_=>aa4 ⟨(zL 2),star (Same.refl _)⟩) (λ_=>⟨(),(zL 1),λl1 hl1=>?_⟩)⟩;have sl:=aaB hl1 (.lst [V.str (Tx [42])]);refine⟨T,l1,ws,[[42]],rfl,rfl,SqL.of (sl _ _ h2),SqL.of aaA,hA,(λw hw=>by rw[bJ.mp hw];exact acS rfl),(),ifD (λ_=>⟨(zL 2),star sl⟩) (λnst=>?_)⟩
  refine⟨rfl,(),44,T,ws,rfl,rfl,SqL.of (sl _ _ h2),⋯,(),(zL 2),λt ht=>?_⟩;have sF:=sl.trans (aaB ht (.tup [.str (Tx (aaY 44 ws)),.ref S]));exact q t _ (.ref S) (some ks) _ (s13.trans (s2p.trans sF)) aaA (alL hW hne ⋯ hO (λz=>nst (aoK hW z))) (.inr ⟨S,_,ks,rfl,rfl,sF _ _ h3,Paired.mapP hPM (λ_ _ z=>(z.keep atF).keep sF),λk hk=>(hO k hk).2.2⟩)
theorem ap6:Dx P w base ZZ.dp 1 (aq0 K):=by
 refine ZZ.dp.dfs Ue (by trivial) ?_;rintro _ _ _ _ s H _ Q E hr⟨d,l,fi,rfl,hl,hd,q⟩;refine⟨_,(ssL (acZ (iR1 ZZ.aa (A1 eI)) (gN 3 Ue.nd) (ss1 (acZ (iLc (K:=K) (abO (A2 (eOp aa7 Y0 Y3) (eOp aaM Y0 Y3)))) (gN 4 Ue.nd) (ss1 (sIf (tW (ajW (tCh oLe oLe eI Y4 Y1) (aeM (tCh oLe oLe eI (eOp abD (eOp aa7 (eOp aaM Y2 Y4) eI) eI) eI)))) (ss1 (aaH Y4)) ssN)) PassesOwn.never)) PassesOwn.never) (ss1 (aaH eI))),?_⟩
 extract_lets;rw[←aCP hl hd] at q;refine⟨(),by decide,by decide,abG (λi σ H2=>∃v3 v4:Option V,σ=[some (.int d),some (.int l),some (.int fi),v3,v4]/\Same H H2/\amJ l fi [d-0,d+0,d-1,d+1,d-2,d+2]=amJ l fi ([d-0,d+0,d-1,d+1,d-2,d+2].drop (2*i))) ⟨_,(),Same.refl _,rfl⟩ ?turn ?done⟩
 case done=>
  rintro σ H2 ⟨v3,v4,rfl,s2,e⟩;rw[e] at q;exact q H2 s2
 case turn=>
  rintro i σ H2 hi ⟨v3,v4,rfl,s2,e⟩;have hi3:i<3:=hi;refine⟨(),(),(()),(),(),(()),(zL 2),λL hL=>?_⟩;have sL:=aaB hL (.lst [V.int (d-(0+(i:Int))),V.int (d+(0+(i:Int)))]);refine⟨L,rfl,⟨_,SqL.of aaA⟩,ab7 (K:=K) (a:=L) (xs:=[V.int (d-(0+(i:Int))),V.int (d+(0+(i:Int)))]) (λj σ Hc=>∃v4:Option V,σ=[some (.int d),some (.int l),some (.int fi),some (.int (0+(i:Int))),v4]/\Same H2 Hc/\Hc L=some (.lst [V.int (d-(0+(i:Int))),V.int (d+(0+(i:Int)))])/\amJ l fi [d-0,d+0,d-1,d+1,d-2,d+2]=amJ l fi ([d-0,d+0,d-1,d+1,d-2,d+2].drop (2*i+j))) ⟨(),sL,aaA,e⟩ (λj σ Hc _ ⟨_,_,_,z,_⟩=>SqL.of z) ?tn ?dn⟩
  case dn=>
   rintro σ Hc ⟨v4,rfl,sc,_,e⟩;exact⟨_,(),s2.trans sc,e⟩
  case tn=>
   rintro j x σ Hc hx ⟨v4,rfl,sc,hc,e⟩;obtain⟨z,rfl,hz⟩:=aBT hi3 hx;rw[hz] at e;have eh:amJ l fi (z::[d-0,d+0,d-1,d+1,d-2,d+2].drop (2*i+(j+1)))=if okW l fi z=true then z else amJ l fi ([d-0,d+0,d-1,d+1,d-2,d+2].drop (2*i+(j+1))):=rfl
   rw[eh] at e;have no:okW l fi z=false->∃v4:Option V,[some (V.int d),some (.int l),some (.int fi),some (.int (0+(i:Int))),some (.int z)]=[some (V.int d),some (.int l),some (.int fi),some (.int (0+(i:Int))),v4]/\Same H2 Hc/\Hc L=some (.lst [V.int (d-(0+(i:Int))),V.int (d+(0+(i:Int)))])/\amJ l fi [d-0,d+0,d-1,d+1,d-2,d+2]=amJ l fi ([d-0,d+0,d-1,d+1,d-2,d+2].drop (2*i+(j+1))):=λn=>⟨(),sc,hc,by rw[e,if_neg (by rw[n];decide)]⟩
   have t1:=cG (fi+z-1) (show (7:Int)≠0 by decide);refine⟨(),(()),(),ifD (λc1=>⟨(),(()),(),ifD (λc2=>⟨(),(),(()),(()),(()),(by show (0:Int)<7;decide),(()),(),ifD (λc3=>⟨(()),(),ifD (λc4=>?hit) (λc4=>?m4)⟩) (λc3=>?m3)⟩) (λc2=>?m2)⟩) (λc1=>?m1)⟩
   case hit=>
    have y:okW l fi z=true:=by unfold okW;rw[eZ c1,eZ c2,eZ c3,eZ c4];rfl
    rw[if_pos y] at e;rw[e] at q;exact⟨(),q Hc (s2.trans sc)⟩
   case m1=>exact⟨(),aaU (aaU (no (by unfold okW;rw[fC c1];rfl)))⟩
   case m2=>exact aaU (no (by unfold okW;rw[fC c2,cM];rfl))
   case m3=>exact⟨(),aaU (no (by unfold okW;rw[fC c3];exact cM _))⟩
   case m4=>exact no (by unfold okW;rw[fC c4,cM];exact cM _)
theorem amB:Dx P w base ZZ.cs 2 (am4 K):=by
 refine ZZ.cs.dfs Ub (by trivial) ?_;rintro f _ _ _ s H _ Q E hr⟨v,k,d,l,fi,rfl,hk,ok,hl,hd,q⟩;refine⟨_,(ssL (akX Y0 (alA (K:=K) (gsC (gN 4 Ub.nd) (gsC (gN 5 Ub.nd) (gsC (gN 6 Ub.nd) gsN))))) (ssL (aaI 7 (eOp abD (eOp aa7 (eOp aaM Y3 Y1) eI) eI) Ub.nd) (ssL (sIf (tCm oEq Y4 (eSx [110,117,109])) (ss1 (aaH (acD (auU (K:=K)) Y1 Y5))) ssN) (ssL (sIf (tCm oEq Y4 (eSx [108,97,115,116])) (ss1 (aaH (acD oEq Y1 (eOp aa7 Y2 Y5)))) ssN) (ssL (sIf (tCm oEq Y4 (eSx [110,101,97,114])) (ss1 (aaH (ahO (acD oLe Y5 Y2) (ae4 (acD oEq Y1 (eD (ap6 ZZ) hr (A3 Y5 Y2 Y3))))))) ssN) (ssL (sIf (tCm oEq Y4 (eSx [119,111,114,107])) (ss1 (aaH (acD oEq Y1 (eCB aQC ZZ.bs PyProof.Rows.boot_max (A1 (ajR ["_law_first"] [3] (iR2 ZZ.aa (A2 (eOp aa7 Y2 eI) (eOp aaM Y2 eI))) (λ_ _ _ _ _ _=>(fs1 (tCh oLe oLe eI (eOp abD (eOp aa7 (eOp aaM Y1 Y0) eI) eI) eI))) (λ_ _ _ _ _ _=>Y0))))))) ssN) (ssL (sIf (tCm oEq Y4 (eSx [119,101,101,107])) (ss1 (aaH (acD (auU (K:=K)) Y7 Y5))) ssN) (ssL (sIf (tCm oEq Y4 (eSx [110,116,104])) (ss1 (aaH (ahO (acD oEq Y7 Y5) (ae4 (acD oEq (eOp acM (eOp aa7 Y1 eI) eI) (eOp aa7 Y6 eI)))))) ssN) (ss1 (aaH (ahO (acD oEq Y7 Y5) (ae4 (acD oGt (eOp aaM Y1 eI) Y2))))))))))))),?_⟩
 extract_lets;obtain⟨u,x,y,tw,rfl,hu,hk⟩:=hk;refine⟨(),u,(),SqT.of hu,rfl,_,(),_,(),(()),?_⟩;refine⟨(),(),(()),(()),(()),(by show (0:Int)<7;decide),?_⟩;cases k with
 |num m=>
  obtain⟨rfl,a,ns,rfl,ha,rfl,hns⟩:=hk;refine⟨(),rfl,(),ifX (λ_=>⟨(),(),a,(),.inl (SqL.of ha),rfl,(bV.mpr λx hx=>by obtain⟨n,_,rfl⟩:=bD.mp hx;rfl),?_⟩) (λc=>absurd rfl c)⟩;have e:tb (Mk.due (.num (aaG ns)) l fi) d.toNat=inV (.int d) (ns.map V.int):=by
   rw[aE7 ok hl hd,abA,alK];refine ahU λn hn=>?_;have h1:=hns n hn;have h2:=hd.1;exact decide_eq_decide.mpr ⟨λh=>by omega,λh=>by omega⟩
  have q1:=q H (Same.refl _);rw[e] at q1;exact q1
 |lst b=>
  obtain⟨rfl,rfl⟩:=hk;have q1:=q H (Same.refl _);rw[aGI ok hl hd,←adK] at q1;exact⟨(),rfl,(),acA (by decide) (⟨(),rfl,(),ifX (λ_=>⟨(),(),(),(()),rfl,q1⟩) (λc=>absurd rfl c)⟩)⟩
 |nea x=>
  obtain⟨rfl,rfl⟩:=hk;have e:=ayL (f:=fi) ok hl hd;refine⟨(),rfl,(),acA (by decide) (⟨(),rfl,(),acA (by decide) (⟨(),rfl,(),ifX (λ_=>⟨(),(),(()),(),ifD (λc=>?_) (λc=>?_)⟩) (λc=>absurd rfl c)⟩)⟩)⟩
  ·have q1:∀H',Same H H'->Q (.bl (decide (d=nw x l fi))) H':=λH' s=>by
    have z:=q H' s;rw[e,eZ c,cY] at z;exact z
   refine⟨(),(),(),(),x,l,fi,rfl,hl,⟨ok.1,c⟩,λH' s=>⟨rfl,?_⟩⟩;have z:=q1 H' s;rw[←adK] at z;exact z
  ·have q1:=q H (Same.refl _);rw[e,fC c,cZ] at q1;exact q1
 |nth wd m=>
  obtain⟨rfl,rfl,rfl⟩:=hk;have q1:=q H (Same.refl _);rw[aGX ok.1 ok.2 hl hd] at q1;refine⟨(),rfl,(),acA (by decide) (⟨(),rfl,(),acA (by decide) (⟨(),rfl,(),acA (by decide) (⟨(),rfl,(),acA (by decide) (⟨(),rfl,(),acA (by decide) (⟨(),rfl,(),ifX (λ_=>⟨(),(),rfl,(),ifI (λc=>?_) (λc=>?_)⟩) (λc=>absurd rfl c)⟩)⟩)⟩)⟩)⟩)⟩
  ·rw[eZ c,cY,←adK] at q1;exact⟨(),(()),(()),⟨by decide,by decide⟩,(),(()),rfl,q1⟩
  ·rw[fC c,cZ] at q1;exact q1
 |wrk=>
  obtain rfl:=hk;have q1:=λH' s=>q H' s;rw[aEC hl hd] at q1;have lf:=hl;obtain⟨⟨l28,l31⟩,f0,f6⟩:=hl;refine⟨(),rfl,(),acA (by decide) (⟨(),rfl,(),acA (by decide) (⟨(),rfl,(),acA (by decide) (⟨(),rfl,(),ifX (λ_=>⟨(),(),(()),(),(()),_,(),⟨⋯,⋯,⋯,⋯⟩,adE (λi z=>z=(([l-2,l-1,l].take i).filter λk=>decide (1<=(fi+k-1)%7)&&decide ((fi+k-1)%7<=5)).map V.int) (by rw[eU];omega) rfl ?_ ?_⟩) (λc=>absurd rfl c)⟩)⟩)⟩)⟩
  ·intro i z D H3 E' F' hi hR hD s3 hz hE hF;subst hR;have hi3:i<3:=⋯;have ek:(([l-2,l-1,l]:List Int).take (i+1))=[l-2,l-1,l].take i++[l-2+(i:Int)]:=by
    match i,hi3 with
    |0,_=>rw[show l-2+((0:Nat):Int)=l-2 by omega];rfl
    |1,_=>rw[show l-2+((1:Nat):Int)=l-1 by omega];rfl
    |2,_=>rw[show l-2+((2:Nat):Int)=l by omega];rfl
   rw[ek,List.filter_append,bB] at hE hF;refine⟨(),(),(()),(()),(()),(by show (0:Int)<7;decide),(()),(),ifD (λc1=>⟨(()),(),ifD (λc2=>⟨(),hE _ _ (Same.refl _) ?e⟩) (λc2=>hF _ (Same.refl _) ?f)⟩) (λc1=>⟨(),aaU (hF _ (Same.refl _) ?g)⟩)⟩
   case e=>rw[List.filter_cons_of_pos (by rw[eZ c1,eZ c2];rfl)];rfl
   case f=>rw[List.filter_cons_of_neg (by rw[fC c2,cM];decide)];exact (cU _).symm
   case g=>rw[List.filter_cons_of_neg (by rw[fC c1];exact a8)];exact (cU _).symm
  ·intro D H3 z hR hD s3 hz;subst hR;rw[show (l+1-(l-2)).toNat=3 by omega] at hz;obtain⟨w1,w2⟩:=aE5 l (adG l28 l31) fi (adH f0 f6);exact⟨D,wkL l fi,rfl,SqL.of hz,w1,λM hM hall=>⟨rfl,by rw[w2 M hM hall,adK];exact q1 _ s3⟩⟩
 |wkd m=>
  obtain⟨rfl,a,ns,rfl,ha,rfl,hns⟩:=hk;refine⟨(),rfl,(),acA (by decide) (⟨(),rfl,(),acA (by decide) (⟨(),rfl,(),acA (by decide) (⟨(),rfl,(),acA (by decide) (⟨(),rfl,(),ifX (λ_=>⟨(),(),a,(),.inl (SqL.of ha),rfl,ac9 _,?_⟩) (λc=>absurd rfl c)⟩)⟩)⟩)⟩)⟩;have q1:=q H (Same.refl _);rw[aGD ok hns hl hd] at q1;exact q1
 |one wd=>
  obtain⟨rfl,rfl⟩:=hk;have q1:=q H (Same.refl _);rw[aGE ok hl hd] at q1;refine⟨(),rfl,(),acA (by decide) (⟨(),rfl,(),acA (by decide) (⟨(),rfl,(),acA (by decide) (⟨(),rfl,(),acA (by decide) (⟨(),rfl,(),acA (by decide) (⟨(),rfl,(),acA (by decide) (⟨(),(),rfl,(),ifI (λc=>?_) (λc=>?_)⟩)⟩)⟩)⟩)⟩)⟩)⟩
  ·rw[eZ c,cY] at q1;exact⟨(),(()),(),(()),q1⟩
  ·rw[fC c,cZ] at q1;exact q1
 |nil=>exact hk.elim
theorem adL:Dx P w base ZZ.ef 3 (auC K):=by
 refine ZZ.ef.dfs U5 (by trivial) ?_;rintro _ _ _ _ s H _ Q E hr⟨a,us,ks,d,l,fi,rfl,ha,hP,ok,hl,hd,q⟩;refine⟨_,(ssL (acZ (iLc (K:=K) Y0) (gN 4 U5.nd) (ss1 (sIf (tVa (eD (amB ZZ) hr (aC Y4 (A3 Y1 Y2 Y3)))) (ss1 (aaH eB)) ssN)) PassesOwn.never) (ss1 (aaH eB))),?_⟩;extract_lets;refine⟨(),a,rfl,⟨_,SqL.of ha⟩,ab7 (K:=K) (a:=a) (xs:=us) (λi σ H2=>∃v4:Option V,σ=[some (.ref a),some (.int d),some (.int l),some (.int fi),v4]/\Same H H2/\(ks.any λk=>tb (k.due l fi) d.toNat)=((ks.drop i).any λk=>tb (k.due l fi) d.toNat)) ⟨(),Same.refl _,rfl⟩ (λi σ H2 _ ⟨_,_,s,_⟩=>SqL.of (s _ _ ha)) ?turn ?done⟩
 case done=>
  rintro σ H2 ⟨v4,rfl,s2,e⟩;rw[acE hP,List.drop_length] at e;have q1:=q H2 s2;rw[e] at q1;exact q1
 case turn=>
  rintro i x σ H2 hx ⟨v4,rfl,s2,e⟩;obtain⟨k,hk,hm⟩:=aiR hP hx;have hdr:ks.drop i=k::ks.drop (i+1):=by
   have hi:=(cC.mp hk).1;rw[List.drop_eq_getElem_cons hi,(cC.mp hk).2]
  rw[hdr,bQ] at e;refine⟨(),(),(),(),x,k,d,l,fi,rfl,hm.keep s2,ok k (bU hk),hl,hd,λH3 s3=>⟨(),?_⟩⟩;cases c:tb (k.due l fi) d.toNat with
  |true=>
   rw[c,Bool.true_or] at e;have q1:=q H3 (s2.trans s3);rw[e] at q1;exact aa4 q1
  |false=>
   rw[c,dG] at e;exact aaU ⟨(),s2.trans s3,e⟩
theorem adV:Dx P w base ZZ.b2 4 (ajC K):=by
 refine ZZ.b2.dfs U7 (by trivial) ?_;rintro _ _ _ _ s H _ Q E hr⟨s0,x0,x1,x2,v3,x4,v5,kd,kw,d,l,fi,rfl,hs,h3,h5,hl,hd,q⟩;refine⟨_,(ssL (aaI 4 (eIx (xTc (K:=K)) Y0 eI) U7.nd) (ai1 (aaI 5 (eIx (xTc (K:=K)) Y0 eI) U7.nd) (ssL (sIf (tW (ajW (tCm aeI Y4 eN) (aeM (tCm aeI Y5 eN)))) (ss1 (aaH eB)) ssN) (ssL (sIf (tCm aeI Y4 eN) (ss1 (aaH (eD (adL ZZ) hr (aC Y5 (A3 Y1 Y2 Y3))))) ssN) (ssL (sIf (tCm aeI Y5 eN) (ss1 (aaH (eD (adL ZZ) hr (aC Y4 (A3 Y1 Y2 Y3))))) ssN) (ss1 (aaH (eOr (eD (adL ZZ) hr (aC Y4 (A3 Y1 Y2 Y3))) (ae4 (eD (adL ZZ) hr (aC Y5 (A3 Y1 Y2 Y3)))))))))))),?_⟩
 extract_lets;have e:=aBG (kd:=kd) (kw:=kw) hl hd h3.ok h5.ok;rw[e] at q;refine⟨(),s0,_,(()),SqT.of hs,rfl,?_⟩;refine⟨(λσ' H'=>σ'=[some (.ref s0),some (.int d),some (.int l),some (.int fi),some v3,some v5]/\H'=H),⟨(),s0,_,(()),SqT.of hs,rfl,rfl,rfl⟩,?_⟩;rintro σ' H' ⟨rfl,rfl⟩;rcases h3 with ⟨rfl,rfl⟩ | ⟨a,us,ks,rfl,rfl,ha,hP,ok⟩
 ·rcases h5 with ⟨rfl,rfl⟩ | ⟨a,us,ks,rfl,rfl,ha,hP,ok⟩
  ·exact⟨(),rfl,(),ifD (λ_=>⟨(),rfl,(),ifD (λ_=>q H' (Same.refl _)) (λc=>absurd rfl c)⟩) (λc=>absurd rfl c)⟩
  ·refine⟨(),rfl,(),ifD (λ_=>⟨(),rfl,(),ifD (λc=>by cases c) (λ_=>?_)⟩) (λc=>absurd rfl c)⟩;refine⟨(),rfl,(),ifD (λ_=>?_) (λc=>absurd rfl c)⟩;exact⟨(),(),(),(),a,us,ks,d,l,fi,rfl,ha,hP,ok,hl,hd,q⟩
 ·refine⟨(),rfl,(),ifD (λc=>by cases c) (λ_=>aaU ⟨(),rfl,(),ifD (λc=>by cases c) (λ_=>?_)⟩)⟩;rcases h5 with ⟨rfl,rfl⟩ | ⟨a',us',ks',rfl,rfl,ha',hP',ok'⟩
  ·refine⟨(),rfl,(),ifD (λ_=>?_) (λc=>absurd rfl c)⟩;refine⟨(),(),(),(),a,us,ks,d,l,fi,rfl,ha,hP,ok,hl,hd,λH1 s1=>?_⟩;have z:=q H1 s1;rw[show (((some ks).isNone&&(none:Ko).isNone)||(orP (some ks) l fi d.toNat||orP none l fi d.toNat))=(ks.any λk=>tb (k.due l fi) d.toNat) from Bool.or_false _] at z
   exact z
  ·refine⟨(),rfl,(),ifD (λc=>by cases c) (λ_=>?_)⟩;refine⟨(),(),(),(),a,us,ks,d,l,fi,rfl,ha,hP,ok,hl,hd,λH1 s1=>⟨(),?_⟩⟩;have z:∀H',Same _ H'->Q (.bl ((ks.any λk=>tb (k.due l fi) d.toNat)||(ks'.any λk=>tb (k.due l fi) d.toNat))) H':=q
   cases c:ks.any λk=>tb (k.due l fi) d.toNat with
   |true=>
    rw[c,Bool.true_or] at z;exact aa4 (z H1 s1)
   |false=>
    rw[c,dG] at z;exact aaU ⟨(),(),(),(),a',us',ks',d,l,fi,rfl,s1 _ _ ha',Paired.mapP hP' (λ_ _ y=>y.keep s1),ok',hl,hd,λH2 s2=>z H2 (s1.trans s2)⟩
theorem aeB:Dx P w base ZZ.dq 1 (aqR K):=by
 refine ZZ.dq.dfs arU (by trivial) ?_;rintro _ _ _ _ s H _ Q E hr⟨y,m,rfl,⟨h1,h2⟩,q⟩;refine⟨_,(ssL (sIf (tCm oEq Y1 eI) (ss1 (aaH (eOp aaM eI (eCT aK9 ZZ.a7 PyProof.Rows.boot_int (A1 (ahO (acD oEq (eOp abD Y0 eI) eI) (ae4 (eOr (acD oNe (eOp abD Y0 eI) eI) (ae4 (acD oEq (eOp abD Y0 eI) eI)))))))))) ssN) (ss1 (aaH (eIx (xLc (K:=K)) (abO (ar5 [31,28,31,30,31,30,31,31,30,31,30,31])) (eOp aa7 Y1 eI))))),?_⟩
 extract_lets;refine⟨(),rfl,(),ifI (λc1=>?_) (λc1=>?_)⟩
 ·have e:aaF y m=28+ab3 y:=by unfold aaF;rw[if_pos c1]
  have z:=q H (Same.refl H);rw[e] at z;refine⟨(),(()),(by show (0:Int)<4;decide),rfl,(),ifI (λc4=>⟨(),(()),(by show (0:Int)<100;decide),rfl,(),azQ (λn=>?a) (λe100=>⟨(),(()),(by show (0:Int)<400;decide),rfl,?b⟩)⟩) (λc4=>?c)⟩
  case a=>
   rw[amT (b:=true) (by unfold aa2;rw[eZ c4,fC n];rfl)] at z;exact .inr ⟨(),(()),z⟩
  case b=>
   rw[amT (b:=decide (V.int (y%400)=V.int 0)) (by unfold aa2;rw[eZ c4,eZ e100,adK];rfl)] at z;exact .inr ⟨(),(()),z⟩
  case c=>
   rw[amT (b:=false) (by unfold aa2;rw[fC c4];rfl)] at z;exact .inr ⟨(),(()),z⟩
 ·have e:aaF y m=lasts.getD (m-1).toNat 0:=by unfold aaF;rw[if_neg c1]
  rw[e] at q;refine⟨(zL 12),λp hp=>?_⟩;exact⟨(),(()),p,lasts.map V.int,(()),SqL.of aaA,ah5 h1 h2,q _ (aaB hp _)⟩
theorem ah6:Dx P w base ZZ.dr 2 (aqX K):=by
 refine ZZ.dr.dfs U6 (by trivial) ?_;rintro _ _ _ _ s H _ Q E hr⟨d,rfl,q⟩;refine⟨_,(ssL (aaI 1 (eOp acM Y0 eI) U6.nd) (ssL (aaI 2 (eOp abD Y0 eI) U6.nd) (ssL (aaI 3 (eOp acM (eOp acL Y2 eI) eI) U6.nd) (ssL (sWh (tCm oGt (eD (acJ ZZ) hr (A1 Y3)) Y2) (ss1 (aaI 3 (eOp aa7 Y3 eI) U6.nd)) PassesOwn.never) (ssL (sWh (tCm oLe (eD (acJ ZZ) hr (A1 (eOp aaM Y3 eI))) Y2) (ss1 (aaI 3 (eOp aaM Y3 eI) U6.nd)) PassesOwn.never) (ssL (aaI 2 (eOp aa7 Y2 (eD (acJ ZZ) hr (A1 Y3))) U6.nd) (ssL (aaI 4 eI U6.nd) (ssL (sWh (tCm oGe Y2 (eD (aeB ZZ) hr (A2 Y3 Y4))) (ssL (aaI 2 (eOp aa7 Y2 (eD (aeB ZZ) hr (A2 Y3 Y4))) U6.nd) (ss1 (aaI 4 (eOp aaM Y4 eI) U6.nd))) PassesOwn.never) (ss1 (aaH (abE (aC Y4 (A3 (eOp aaM Y2 eI) (eD (aeB ZZ) hr (A2 Y3 Y4)) (eOp abD (eOp aaM (eOp aa7 Y0 Y2) eI) eI)))))))))))))),?_⟩
 extract_lets;have x0:0<=d%146097/\d%146097+146097*(d / 146097)=d:=⋯;refine⟨(),(()),⟨by decide,by decide⟩,?_⟩;refine⟨(),(()),(by show (0:Int)<146097;decide),?_⟩;refine⟨(),(()),.inr ⟨by decide,by decide⟩,(()),⟨by decide,by decide⟩,?_⟩;refine acG (λσ H'=>H'=H/\∃y:Int,σ=[some (.int d),some (.int (d / 146097)),some (.int (d%146097)),some (.int y),none]) (λσ _=>(db (iv σ 3)-d%146097).toNat) ⟨rfl,()⟩ ?_
 rintro σ H' ⟨rfl,y,rfl⟩;refine⟨(),(),(),(()),(),ifD (λc=>?_) (λc=>?_)⟩
 ·refine⟨_,λ_ _ h=>h,?_⟩;have h1:=aeA (y-1);have h2:=afF (y-1);rw[show y-1+1=y by omega] at h1;exact⟨(),(()),_,(by show (db (y-1)-d%146097).toNat<(db y-d%146097).toNat;omega),rfl,rfl,()⟩
 refine acG (λσ H2=>H2=H'/\∃y:Int,σ=[some (.int d),some (.int (d / 146097)),some (.int (d%146097)),some (.int y),none]/\db y<=d%146097) (λσ _=>(d%146097-db (iv σ 3)).toNat) ⟨rfl,(),⋯⟩ ?_;clear c;rintro σ H2 ⟨rfl,y,rfl,hy⟩;refine⟨(),(()),(),(),(()),(),ifD (λc=>?_) (λc=>?_)⟩
 ·refine⟨_,λ_ _ h=>h,?_⟩;have h1:=aeA y;have h2:=afF y;exact⟨(),(()),_,(by show (d%146097-db (y+1)).toNat<(d%146097-db y).toNat;omega),rfl,rfl,(),c⟩
 refine⟨(),(),(),(()),?_⟩;refine acG (λσ H3=>Same H2 H3/\∃m r:Int,σ=[some (.int d),some (.int (d / 146097)),some (.int r),some (.int y),some (.int m)]/\(1<=m/\m<=12)/\0<=r/\db y+ahead y m+r=d%146097) (λσ _=>(13-(iv σ 4)).toNat) ?_ ?_
 ·have a4:ahead y 1=0:=rfl;exact⟨Same.refl _,1,(),⟨by decide,by decide⟩,⋯,⋯⟩
 ·rintro σ H3 ⟨s2,m,r,rfl,hm,hr0,he⟩;refine⟨(),(),(),_,(),hm,λH4 s3=>⟨(()),(),?_⟩⟩;have a1:=adD (y:=y) hm.1;refine ifD (λc2=>?_) (λc2=>?_)
  ·have a2:=aiF y;have a3:=aeA y;have hm12:m<12:=by
    rcases b9 m 12 with z | z
    ·exact z
    ·have e12:m=12:=⋯;subst e12;have a5:ahead y (12+1)=ahead y 13:=rfl;omega
   refine⟨_,λ_ _ h=>h,?_⟩;refine⟨(),(),(),_,(),hm,λH5 s4=>⟨(()),?_⟩⟩;refine⟨(),(()),?_⟩;exact⟨_,(by show (13-(m+1)).toNat<(13-m).toNat;omega),rfl,s2.trans (s3.trans s4),m+1,r-aaF y m,rfl,⟨⋯,⋯⟩,⋯,⋯⟩
  ·refine⟨(),(),(()),(),(),_,(),hm,λH5 s4=>⟨(),(),(()),(()),(()),(by show (0:Int)<7;decide),(zL 4),λp hp=>?_⟩⟩;obtain⟨o1,o2⟩:=aFZ (r:=d / 146097) (d:=d) (x:=d%146097) (show OkD y m (r+1) from ⟨hm,⋯,⋯⟩) (by unfold abY;omega) x0.2;exact q _ m (r+1) p _ o1 o2 (s2.trans (s3.trans (s4.trans (aaB hp _)))) (by rw[amY,show d-(r+1)+1+6=d-r+6 by omega];exact aaA)
theorem aiB:Dx P w base ZZ.ds 5 (aq8 K):=by
 refine ZZ.ds.dfs Ul (by trivial) ?_;rintro _ _ _ _ s H _ Q E hr⟨s0,ns0,ns1,ns3,kd,kw,d,rfl,⟨x0,v3,v5,a0,a1,a3,hs,h0,h1,h3,hv3,hv5,b0,b1,b3⟩,q⟩;refine⟨_,(ssL (akX (eD (ah6 ZZ) hr (A1 Y1)) (alA (K:=K) (gsC (gN 2 Ul.nd) (gsC (gN 3 Ul.nd) (gsC (gN 4 Ul.nd) (gsC (gN 5 Ul.nd) gsN)))))) (ssL (sIf (tCm (aqB (K:=K)) Y2 (eIx (xTc (K:=K)) Y0 eI)) (ss1 (aaH (eSx [109,111,110,116,104]))) ssN) (ssL (sIf (tNo (tVa (eD (adV ZZ) hr (aC Y0 (A3 Y3 Y4 Y5))))) (ss1 (aaH (eSx [100,97,121]))) ssN) (ss1 (aaH (eSx [116,111,108,100])))))),?_⟩
 extract_lets;refine⟨(),d,rfl,λy m k p H1 ok e s1 hp=>⟨p,(),SqT.of hp,rfl,_,(),_,(),_,(),(()),?_⟩⟩;have q':=q y m k;have hm:=ok.1;refine⟨(),(),s0,_,(()),SqT.of (s1 _ _ hs),rfl,a3,(),.inl (SqL.of (s1 _ _ h3)),rfl,ac9 _,(),?_⟩;show if (!inV (.int m) (ns3.map V.int))=true then _ else _
 rw[ajT (λn hn=>by have:=b3 n hn;omega) (show 0<=m by omega)];cases c1:tb (aaG ns3) m.toNat with
 |false=>
  have z:=q' H1 ok e s1;rw[show ah7 (aaG ns3) kd kw d y m k=[109,111,110,116,104] from if_pos c1] at z;exact aa4 z
 |true=>
  refine aaU ⟨(),(),(),(),s0,_,_,_,v3,_,v5,kd,kw,k,aaF y m,(d-k+1+6)%7,rfl,s1 _ _ hs,hv3.keep s1,hv5.keep s1,asF ok,ok.2,λH2 s2=>⟨(),?_⟩⟩;have n1:¬tb (aaG ns3) m.toNat=false:=by rw[c1];decide
  have z:=q' H2 ok e (s1.trans s2);cases c2:tb (aaO kd kw (aaF y m) ((d-k+1+6)%7)) k.toNat with
  |false=>
   rw[show ah7 (aaG ns3) kd kw d y m k=[100,97,121] from (if_neg n1).trans (if_pos c2)] at z;exact aa4 z
  |true=>
   rw[show ah7 (aaG ns3) kd kw d y m k=[116,111,108,100] from (if_neg n1).trans (if_neg (by rw[c2];decide))] at z;exact aaU z
theorem aiO:Dx P w base ZZ.dt 6 (arH K):=by
 refine ZZ.dt.dfs Up (by trivial) ?_;rintro _ _ _ _ s H _ Q E hr⟨s0,ns0,ns1,ns3,kd,kw,t,rfl,hL,q⟩;refine⟨_,(ssL (aaI 2 (eD (aiB ZZ) hr (A2 Y0 (eOp acM Y1 eI))) Up.nd) (ssL (sIf (tCm oNe Y2 (eSx [116,111,108,100])) (ss1 (aaH Y2)) ssN) (ssL (sIf (tCm (aqB (K:=K)) (eOp abD (eOp acM Y1 eI) eI) (eIx (xTc (K:=K)) Y0 eI)) (ss1 (aaH (eSx [104,111,117,114]))) ssN) (ssL (sIf (tCm (aqB (K:=K)) (eOp abD Y1 eI) (eIx (xTc (K:=K)) Y0 eI)) (ss1 (aaH (eSx [109,105,110,117,116,101]))) ssN) (ss1 (aaH (eSx [110,111,110,101]))))))),?_⟩
 extract_lets;obtain⟨x0,v3,v5,a0,a1,a3,hs,h0,h1,h3,hv3,hv5,b0,b1,b3⟩:=id hL;refine⟨(),(),(()),⟨by decide,by decide⟩,s0,ns0,ns1,ns3,kd,kw,t / 1440,rfl,hL,λy m k H1 ok e s1=>?_⟩;have z:=q y m k H1 ok e s1;refine⟨(),rfl,(),?_⟩;rcases axU (m0:=aaG ns0) (m1:=aaG ns1) (m3:=aaG ns3) (kd:=kd) (kw:=kw) (d:=t / 1440) (r:=t%1440) (y:=y) (m:=m) (k:=k) with ⟨e1,e2⟩ | ⟨e1,e2⟩ | ⟨e1,e2⟩
 ·rw[e2] at z;rw[e1];exact awP (λ_=>⟨(),z⟩) (λc=>absurd c (by decide))
 ·rw[e2] at z;rw[e1];exact awP (λ_=>⟨(),z⟩) (λc=>absurd c (by decide))
 rw[e2] at z;rw[e1];refine awP (λc=>absurd rfl c) (λ_=>?_);refine⟨(),(()),⟨by decide,by decide⟩,(()),(by show (0:Int)<24;decide),(),s0,_,(()),SqT.of (s1 _ _ hs),rfl,a1,(),.inl (SqL.of (s1 _ _ h1)),rfl,ac9 _,(),?_⟩;show if (!inV (.int (t / 60%24)) (ns1.map V.int))=true then _ else _
 rw[show t / 60%24=t%1440 / 60 by omega,ajT (λn hn=>(b1 n hn).1) (show 0<=t%1440 / 60 by omega)];cases c3:tb (aaG ns1) (t%1440 / 60).toNat with
 |false=>
  rw[if_pos c3] at z;exact aa4 z
 |true=>
  rw[if_neg (by rw[c3];decide)] at z;refine aaU ⟨(),(()),(by show (0:Int)<60;decide),(),s0,_,(()),SqT.of (s1 _ _ hs),rfl,a0,(),.inl (SqL.of (s1 _ _ h0)),rfl,ac9 _,(),?_⟩;show if (!inV (.int (t%60)) (ns0.map V.int))=true then _ else _
  rw[show t%60=t%1440%60 by omega,ajT (λn hn=>(b0 n hn).1) (show 0<=t%1440%60 by omega)];cases c4:tb (aaG ns0) (t%1440%60).toNat with
  |false=>
   rw[if_pos c4] at z;exact aa4 z
  |true=>
   rw[if_neg (by rw[c4];decide)] at z;exact aaU z
theorem adR:Dx P w base ZZ.c7 1 (anM K):=by
 refine ZZ.c7.dfs aoF (by trivial) ?_;rintro _ _ _ _ s H _ Q E hr⟨i,rfl,q⟩;refine⟨_,(ss1 (aaH (ahO (eCB cII ZZ.ab PyProof.Rows.boot_isinstance (A2 Y0 (eTy ZZ.a7 PyProof.Rows.boot_int))) (ae4 (aNX (eCB cIB ZZ.ab PyProof.Rows.boot_isinstance (A2 Y0 (eTy ZZ.cx PyProof.Rows.boot_bool)))))))),?_⟩;refine⟨(),(),(),?_⟩;refine aa4 ?_;refine⟨(),(),(),?_⟩;exact q
theorem agI:Dx P w base ZZ.bo 3 (agC K):=by
 refine ZZ.bo.dfs Ud (by trivial) ?_;rintro _ _ _ _ s H _ Q E hr⟨s0,ns0,ns1,ns3,kd,kw,fi,l,rfl,⟨x0,v3,v5,a0,a1,a3,hs,h0,h1,h3,hv3,hv5,b0,b1,b3⟩,hfl,hw,q⟩;refine⟨_,(ssL (aaI 3 (eOp acM Y1 eI) Ud.nd) (ssL (sWh (tCm oLe Y3 (eOp acM Y2 eI)) (ssL (akX (eD (ah6 ZZ) hr (A1 Y3)) (alA (K:=K) (gsC (gN 4 Ud.nd) (gsC (gN 5 Ud.nd) (gsC (gN 6 Ud.nd) (gsC (gN 7 Ud.nd) gsN)))))) (ssL (sIf (tCm (auU (K:=K)) Y4 (eIx (xTc (K:=K)) Y0 eI)) (ss1 (aaH eB)) ssN) (ss1 (aaI 3 (eOp aaM (eOp aa7 (eOp aaM Y3 Y6) Y5) eI) Ud.nd)))) PassesOwn.never) (ss1 (aaH eB)))),?_⟩
 extract_lets;refine⟨(),(()),⟨by decide,by decide⟩,?_⟩;refine acG (λσ H'=>Same H H'/\∃(n:Int) (v4 v5' v6 v7:Option V),σ=[some (.ref s0),some (.int fi),some (.int l),some (.int n),v4,v5',v6,v7]/\fi / 1440<=n) (λσ _=>(l / 1440+1-(iv σ 3)).toNat) ⟨Same.refl _,_,_,_,_,(),aS _⟩ ?_;rintro σ H1 ⟨sA,n,v4,v5',v6,v7,rfl,hn⟩;refine⟨(),(),(()),⟨by decide,by decide⟩,(()),(),ifD (λc=>?_) (λc=>q _ sA)⟩;refine⟨_,λ_ _ h=>h,?_⟩
 refine⟨(),n,rfl,λy m k p H2 ok e s1 hp=>⟨p,(),SqT.of hp,rfl,_,(),_,(),_,(),(()),?_⟩⟩;have sB:=sA.trans s1;have hm:=ok.1;have hk:=ok.2;obtain⟨t,t1,t2,t3⟩:∃t,fi<=t/\t<=l/\t / 1440=n:=by
  rcases b9 fi (1440*n) with w' | w'
  ·exact⟨1440*n,⋯,⋯,⋯⟩
  ·exact⟨fi,⋯,hfl,⋯⟩
 have no:tb (aaG ns3) m.toNat=false:=by
  cases akA (aeH t) (hw t t1 t2) with
  |mon z=>
   cases c1:tb (aaG ns3) m.toNat with
   |false=>rfl
   |true=>exact absurd ⟨y,m,k,ok,by rw[t3];exact e,c1⟩ z
 refine⟨(),(),s0,_,(()),SqT.of (sB _ _ hs),rfl,a3,(),.inl (SqL.of (sB _ _ h3)),rfl,ac9 _,(),?_⟩;show if inV (.int m) (ns3.map V.int)=true then _ else _
 rw[ajT (λn hn=>by have:=b3 n hn;omega) (show 0<=m by omega),no];refine aaU ⟨(),(),(()),(),(()),(()),?_⟩;exact⟨_,(by show (l / 1440+1-(n+aaF y m-k+1)).toNat<(l / 1440+1-n).toNat;omega),rfl,sB,_,_,_,_,(),⋯⟩
theorem ag8:Dx P w base ZZ.bp 7 (ag2 K):=by
 refine ZZ.bp.dfs Uk (by trivial) ?_;rintro _ _ _ _ s H _ Q E hr⟨s0,ns0,ns1,ns3,kd,kw,fi,l,tw,rfl,hL,hfl,hw,hor,q⟩;refine⟨_,(ssL (aaI 5 (eIx (xLc (K:=K)) (abO (A2 eI eI)) (eCT aK9 ZZ.a7 PyProof.Rows.boot_int (A1 (acD oEq Y3 (eSx [104,111,117,114]))))) Uk.nd) (ssL (sIf (tCm oGe (eOp aa7 Y2 Y1) (eOp aaM (eOp acM (eOp acL eI Y5) eI) eI)) (ss1 (aaH eB)) ssN) (ssL (acZ (iRL ZZ.aa (A2 (eOp acM Y1 Y5) (eOp aaM (eOp acM Y2 Y5) eI))) (gN 6 Uk.nd) (ssL (sIf (tW (wOr (tW (ajW (tCm oEq Y3 (eSx [104,111,117,114])) (aeM (tCm (auU (K:=K)) (eOp abD Y6 eI) (eIx (xTc (K:=K)) Y0 eI))))) (ae9 (tW (ajW (tCm oEq Y3 (eSx [109,105,110,117,116,101])) (aeM (tCm (auU (K:=K)) (eOp abD Y6 eI) (eIx (xTc (K:=K)) Y0 eI)))))))) (ss1 (aaH eB)) ssN) (ss1 (sIf (tW (ajW (tVa Y4) (aeM (tCm oNe (eD (aiO ZZ) hr (A2 Y0 (eCB aT5 ZZ.bs PyProof.Rows.boot_max (A2 Y1 (eOp acL Y6 Y5))))) Y3)))) (ss1 (aaH eB)) ssN))) PassesOwn.never) (ss1 (aaH eB))))),?_⟩
 extract_lets;obtain⟨x0,v3,v5,a0,a1,a3,hs,h0,h1,h3,hv3,hv5,b0,b1,b3⟩:=id hL;rcases hor with ⟨rfl,hlt⟩ | ⟨rfl,hlt⟩
 ·refine⟨(zL 2),λl1 n1=>⟨(),rfl,.inr ⟨(),l1,_,(()),SqL.of aaA,(by rw[if_pos (eZ rfl)];rfl),?_⟩⟩⟩;have s1:=aaB n1 (.lst [V.int 1,V.int 60]);refine⟨(),(),(()),(),(()),.inl ⟨by decide,by decide⟩,(()),⟨by decide,by decide⟩,(()),(()),(),ifD (λc=>absurd c ⋯) (λ_=>?_)⟩;refine⟨(),(),(()),⟨by decide,by decide⟩,(),(),(()),⟨by decide,by decide⟩,(()),_,(),abG (λi σ H2=>∃v6:Option V,σ=[some (.ref s0),some (.int fi),some (.int l),some (.str (Tx [104,111,117,114])),some (.bl true),some (.int 60),v6]/\Same H H2) ⟨(),s1⟩ ?turn ?done⟩
  case done=>
   rintro σ H2 ⟨v6,rfl,s2⟩;exact q H2 s2
  case turn=>
   rintro i σ H2 hi ⟨v6,rfl,s2⟩;have hi':(i:Int)<l / 60+1-fi / 60:=⋯;obtain⟨t,et,t1,t2,t3⟩:∃t,t=(if (fi / 60+(i:Int))*60>fi then (fi / 60+(i:Int))*60 else fi)/\fi<=t/\t<=l/\t / 60=fi / 60+(i:Int):=by
    exact⟨(),aJ4 hfl hi'⟩
   have wt:=hw t t1 t2;refine⟨(),rfl,(),ifX (λ_=>⟨(),(()),(by show (0:Int)<24;decide),(),s0,_,(()),SqT.of (s2 _ _ hs),rfl,a1,(),.inl (SqL.of (s2 _ _ h1)),rfl,ac9 _,(),?_⟩) (λc=>absurd rfl c)⟩;show if inV (.int ((fi / 60+(i:Int))%24)) (ns1.map V.int)=true then _ else _
   have no:tb (aaG ns1) ((fi / 60+(i:Int))%24).toNat=false:=by
    cases akA (aeH t) wt with
    |hou _ z=>rw[show t%1440 / 60=(fi / 60+(i:Int))%24 by omega] at z;exact z
   rw[ajT (λn hn=>(b1 n hn).1) (show 0<=(fi / 60+(i:Int))%24 by omega),no];refine aaU ⟨(),rfl,(),acA (by decide) (?_)⟩;refine⟨(),(),aa4 ⟨(),(),(),(),(()),.inr ⟨by decide,by decide⟩,_,(),s0,ns0,ns1,ns3,kd,kw,t,(by rw[et];rfl),hL.keep s2,λy m k H3 ok e s3=>?_⟩⟩;rw[wt y m k ok e];exact⟨(),rfl,(),awP (λc=>absurd rfl c) (λ_=>⟨(),s2.trans s3⟩)⟩
 ·refine⟨(zL 2),λl1 n1=>⟨(),rfl,.inr ⟨(),l1,_,(()),SqL.of aaA,(by rw[if_neg (by rw[fC (λz=>absurd (aa1 z) (by decide))];decide)];rfl),?_⟩⟩⟩;have s1:=aaB n1 (.lst [V.int 1,V.int 60]);refine⟨(),(),(()),(),(()),.inl ⟨by decide,by decide⟩,(()),⟨by decide,by decide⟩,(()),(()),(),ifD (λc=>absurd c ⋯) (λ_=>?_)⟩;refine⟨(),(),(()),⟨by decide,by decide⟩,(),(),(()),⟨by decide,by decide⟩,(()),_,(),abG (λi σ H2=>∃v6:Option V,σ=[some (.ref s0),some (.int fi),some (.int l),some (.str (Tx [109,105,110,117,116,101])),some (.bl true),some (.int 1),v6]/\Same H H2) ⟨(),s1⟩ ?turn ?done⟩
  case done=>
   rintro σ H2 ⟨v6,rfl,s2⟩;exact q H2 s2
  case turn=>
   rintro i σ H2 hi ⟨v6,rfl,s2⟩;have hi':(i:Int)<l / 1+1-fi / 1:=⋯;obtain⟨t,et,t1,t2,t3⟩:∃t,t=(if (fi / 1+(i:Int))*1>fi then (fi / 1+(i:Int))*1 else fi)/\fi<=t/\t<=l/\t / 1=fi / 1+(i:Int):=by
    exact⟨(),aPJ hfl hi'⟩
   have wt:=hw t t1 t2;refine⟨(),rfl,(),acA (by decide) (⟨(),rfl,(),ifX (λ_=>⟨(),(()),(by show (0:Int)<60;decide),(),s0,_,(()),SqT.of (s2 _ _ hs),rfl,a0,(),.inl (SqL.of (s2 _ _ h0)),rfl,ac9 _,(),?_⟩) (λc=>absurd rfl c)⟩)⟩;show if inV (.int ((fi / 1+(i:Int))%60)) (ns0.map V.int)=true then _ else _
   have no:tb (aaG ns0) ((fi / 1+(i:Int))%60).toNat=false:=by
    cases akA (aeH t) wt with
    |min _ _ z=>rw[show t%1440%60=(fi / 1+(i:Int))%60 by omega] at z;exact z
   rw[ajT (λn hn=>(b0 n hn).1) (show 0<=(fi / 1+(i:Int))%60 by omega),no];refine aaU ?_;refine⟨(),(),aa4 ⟨(),(),(),(),(()),.inr ⟨by decide,by decide⟩,_,(),s0,ns0,ns1,ns3,kd,kw,t,(by rw[et];rfl),hL.keep s2,λy m k H3 ok e s3=>?_⟩⟩;rw[wt y m k ok e];exact⟨(),rfl,(),awP (λc=>absurd rfl c) (λ_=>⟨(),s2.trans s3⟩)⟩
theorem apP:Dx P w base ZZ.du 8 (aqP K):=by
 refine ZZ.du.dfs Uh (by trivial) ?_;rintro _ _ _ _ s H _ Q E hr⟨s0,ns0,ns1,ns3,kd,kw,fi,l,tw,rfl,hL,hfl,hw,⟨hh,hH⟩,q⟩;refine⟨_,(ssL (sIf (tCm oGe (eOp aa7 Y2 Y1) eI) (ss1 (aaH eB)) ssN) (ssL (sIf (tCm oEq Y3 (eSx [109,111,110,116,104])) (ss1 (aaH (eD (agI ZZ) hr (A3 Y0 Y1 Y2)))) ssN) (ssL (sIf (tCm oEq Y3 (eSx [100,97,121])) (ssL (acZ (iRL ZZ.aa (A2 (eOp acM Y1 eI) (eOp aaM (eOp acM Y2 eI) eI))) (gN 5 Uh.nd) (ss1 (sIf (tCm oNe (eD (aiB ZZ) hr (A2 Y0 Y5)) (eSx [100,97,121])) (ss1 (aaH eB)) ssN)) PassesOwn.never) (ss1 (aaH eB))) ssN) (ss1 (aaH (ahO (acD (auU (K:=K)) Y3 (abO (A2 (eSx [104,111,117,114]) (eSx [109,105,110,117,116,101])))) (ae4 (eD (ag8 ZZ) hr (aC Y0 (aC Y1 (A3 Y2 Y3 Y4))))))))))),?_⟩
 extract_lets;obtain⟨p1,p2,p3⟩:=aH0 hH hw;refine⟨(),(),(()),(()),(),ifD (λc=>absurd c ⋯) (λ_=>?_)⟩;rcases aw8 (akA (aeH _) (hw fi (aS _) hfl)) with rfl | rfl | rfl | rfl
 ·refine⟨(),rfl,(),aT4 ?_⟩;exact⟨(),(),(),s0,ns0,ns1,ns3,kd,kw,fi,l,rfl,hL,hfl,hw,q⟩
 ·refine⟨(),rfl,(),acA (by decide) (⟨(),rfl,(),aT4 ?_⟩)⟩;refine⟨(),(()),⟨by decide,by decide⟩,(),(()),⟨by decide,by decide⟩,(()),_,(),abG (λi σ H2=>∃v5:Option V,σ=[some (.ref s0),some (.int fi),some (.int l),some (.str (Tx [100,97,121])),some (.bl true),v5]/\Same H H2) ⟨(),Same.refl _⟩ ?turn ?done⟩
  case done=>
   rintro σ H2 ⟨v5,rfl,s2⟩;exact q H2 s2
  case turn=>
   rintro i σ H2 hi ⟨v5,rfl,s2⟩;have hi':(i:Int)<l / 1440+1-fi / 1440:=⋯;obtain⟨t,t1,t2,t3⟩:∃t,fi<=t/\t<=l/\t / 1440=fi / 1440+(i:Int):=by
    rcases b9 fi (1440*(fi / 1440+(i:Int))) with w' | w'
    ·exact⟨1440*(fi / 1440+(i:Int)),⋯,⋯,⋯⟩
    ·exact⟨fi,⋯,hfl,⋯⟩
   refine⟨(),(),s0,ns0,ns1,ns3,kd,kw,fi / 1440+(i:Int),rfl,hL.keep s2,λy m k H3 ok e s3=>⟨rfl,(),?_⟩⟩;have z:=hw t t1 t2 y m k ok (by rw[t3];exact e);have e1:ah7 (aaG ns3) kd kw (fi / 1440+(i:Int)) y m k=[100,97,121]:=by
    rw[←t3];rcases axU (m0:=aaG ns0) (m1:=aaG ns1) (m3:=aaG ns3) (kd:=kd) (kw:=kw) (d:=t / 1440) (r:=t%1440) (y:=y) (m:=m) (k:=k) with ⟨e1,e2⟩ | ⟨e1,e2⟩ | ⟨e1,e2⟩
    ·rw[e2] at z;exact absurd (aa1 z) (by decide)
    ·exact e1
    ·rw[e2] at z;split at z
     ·exact absurd (aa1 z) (by decide)
     ·split at z
      ·exact absurd (aa1 z) (by decide)
      ·cases z
   rw[e1];exact awP (λc=>absurd rfl c) (λ_=>⟨(),s2.trans s3⟩)
 ·refine⟨(),rfl,(),acA (by decide) (⟨(),rfl,(),acA (by decide) (?_)⟩)⟩;refine⟨(),(zL 2),λL hLn=>⟨L,(),.inl (SqL.of aaA),rfl,rfl,(),?_⟩⟩;have sL:=aaB hLn (.lst [.str (Tx [104,111,117,114]),.str (Tx [109,105,110,117,116,101])]);refine ifT (by decide +kernel) ⟨(),(),(),(),(),s0,ns0,ns1,ns3,kd,kw,fi,l,(),hL.keep sL,hfl,hw,.inl ⟨rfl,p2 rfl⟩,λH' s'=>q H' (sL.trans s')⟩
 ·refine⟨(),rfl,(),acA (by decide) (⟨(),rfl,(),acA (by decide) (?_)⟩)⟩;refine⟨(),(zL 2),λL hLn=>⟨L,(),.inl (SqL.of aaA),rfl,rfl,(),?_⟩⟩;have sL:=aaB hLn (.lst [.str (Tx [104,111,117,114]),.str (Tx [109,105,110,117,116,101])]);refine ifT (by decide +kernel) ⟨(),(),(),(),(),s0,ns0,ns1,ns3,kd,kw,fi,l,(),hL.keep sL,hfl,hw,.inr ⟨rfl,p3 rfl⟩,λH' s'=>q H' (sL.trans s')⟩
theorem ai2:Dx P w base ZZ.b3 2 (ai6 K):=by
 refine ZZ.b3.dfs ajZ (by trivial) ?_;rintro _ _ _ _ s H _ Q E hr⟨t,a,b,w',rfl,h,q⟩;refine⟨_,(ssL (sIf (tW (wOr (tNo (tVa (eCB cIs ZZ.ab PyProof.Rows.boot_isinstance (A2 Y0 (eTy ZZ.b5 PyProof.Rows.boot_tuple))))) (ae9 (tCm oNe (eCB (afA (K:=K)) ZZ.ag PySem.boot_len (A1 Y0)) eI)))) (ss1 (aaH eB)) ssN) (ss1 (aaH (ahO (eD (adR ZZ) hr (A1 (eIx (xTc (K:=K)) Y0 eI))) (ahO (eD (adR ZZ) hr (A1 (eIx (xTc (K:=K)) Y0 eI))) (ae4 (eCB cIs ZZ.ab PyProof.Rows.boot_isinstance (A2 (eIx (xTc (K:=K)) Y0 eI) (eTy ZZ.ae PyProof.Rows.boot_str))))))))),?_⟩
 extract_lets;refine⟨(),.ref t,.tuple,.tuple,rfl,(by decide),.inr (.inl ⟨rfl,_,SqT.of h⟩),(),ifF rfl ⟨(),t,(),.inr (SqT.of h),rfl,(),azQ (λc=>absurd rfl c) (λ_=>?_)⟩⟩;exact⟨(),t,_,(()),SqT.of (h),rfl,(),(),aa4 ⟨(),t,_,(()),SqT.of (h),rfl,(),(),aa4 ⟨(),t,_,(()),SqT.of (h),rfl,_,.str,.str,rfl,(by decide),rfl,q⟩⟩⟩
theorem al8:Dx P w base ZZ.ct 9 (amM K):=by
 refine ZZ.ct.dfs Um (by trivial) ?_;rintro _ _ _ _ s H _ Q E hr⟨s0,ns0,ns1,ns3,kd,kw,b,e,l,us,sts,rfl,hL,hl,hP,hcv,hH,q⟩;refine⟨_,(ssL (aaI 5 Y1 Um.nd) (ssL (aaI 6 (eSx []) Um.nd) (ssL (acZ (iLc (K:=K) Y3) (gN 7 Um.nd) (ssL (sIf (tW (wOr (tNo (tVa (eD (ai2 ZZ) hr (A1 Y7)))) (wOr (tCm oNe (eIx (xTc (K:=K)) Y7 eI) Y5) (wOr (tCm oLt (eIx (xTc (K:=K)) Y7 eI) Y5) (ae9 (tCm oEq (eIx (xTc (K:=K)) Y7 eI) Y6)))))) (ss1 (aaH eB)) ssN) (ssL (sIf (tNo (tVa (eD (apP ZZ) hr (aC Y0 (aC (eIx (xTc (K:=K)) Y7 eI) (A3 (eIx (xTc (K:=K)) Y7 eI) (eIx (xTc (K:=K)) Y7 eI) Y4)))))) (ss1 (aaH eB)) ssN) (ssL (aaI 5 (eOp aaM (eIx (xTc (K:=K)) Y7 eI) eI) Um.nd) (ss1 (aaI 6 (eIx (xTc (K:=K)) Y7 eI) Um.nd))))) PassesOwn.never) (ss1 (aaH (acD oEq Y5 (eOp aaM Y2 eI))))))),?_⟩
 extract_lets;refine⟨(),?_⟩;refine⟨(),l,rfl,⟨_,SqL.of hl⟩,ab7 (K:=K) (a:=l) (xs:=us) (λi σ Hc=>∃(at_:Int) (w':List Nat) (v7:Option V),σ=[some (.ref s0),some (.int b),some (.int e),some (.ref l),some (.bl true),some (.int at_),some (.str (Tx w')),v7]/\Same H Hc/\Cov (aaG ns0) (aaG ns1) (aaG ns3) kd kw at_ (sts.drop i) (e+1)/\hdW (sts.drop i)≠some w') ⟨b,[],(),Same.refl _,hcv,aCX hcv⟩ (λi σ Hc _ ⟨_,_,_,_,z,_⟩=>SqL.of (z _ _ hl)) ?turn ?done⟩
 case done=>
  rintro σ Hc ⟨at_,w',v7,rfl,sc,cv,_⟩;rw[acE hP,List.drop_length] at cv;have e1:e+1=at_:=cv;have z:=q Hc sc;rw[show true=decide (V.int at_=V.int (e+1)) from (eZ (by rw[e1])).symm] at z;exact⟨(),(),(()),rfl,z⟩
 case turn=>
  rintro i x σ Hc hx ⟨at_,w',v7,rfl,sc,cv,hw⟩;obtain⟨z,hz,t,rfl,ht0⟩:=aiR hP hx;have ht:=sc _ _ ht0;have hdr:sts.drop i=z::sts.drop (i+1):=by
   have hi:=(cC.mp hz).1;rw[List.drop_eq_getElem_cons hi,(cC.mp hz).2]
  rw[hdr] at cv hw;obtain⟨c1,c2,c3,c4,c5,c6,c7⟩:=cv;have hw:¬z.2.2=w':=λy=>hw (by show some z.2.2=some w';rw[y]);refine⟨(),t,z.1,z.2.1,z.2.2,rfl,ht,(),ifF rfl ⟨(),t,_,(()),SqT.of (ht),rfl,(),rfl,(),azQ (λc=>absurd c1 c) (λ_=>⟨(),t,_,(()),SqT.of (ht),rfl,(),(()),(),ifD (λc=>absurd c ⋯) (λ_=>⟨(),t,_,(()),SqT.of (ht),rfl,(),rfl,(),ifX (λc=>absurd c hw) (λ_=>?_)⟩)⟩)⟩⟩;refine⟨(),(),t,_,(()),SqT.of (ht),rfl,(),t,_,(()),SqT.of (ht),rfl,(),t,_,(()),SqT.of (ht),rfl,(),s0,ns0,ns1,ns3,kd,kw,z.1,z.2.1,z.2.2,rfl,hL.keep sc,c2,c3,hH,λH1 s1=>⟨(),ifF rfl ?_⟩⟩
  refine⟨(),t,_,(()),SqT.of (s1 _ _ ht),rfl,(()),?_⟩;exact⟨(),t,_,(()),SqT.of (s1 _ _ ht),rfl,_,_,(),sc.trans s1,c7,c6⟩
theorem anS:Dx P w base ZZ.c8 5 (an4 K):=by
 refine ZZ.c8.dfs Uf (by trivial) ?_;rintro f _ _ _ s H _ Q E hr⟨s0,x0,x1,x2,v3,v5,Mn,kd,kw,ns,rfl,hs,hMn,hns,hlen,h3,h5,q⟩;refine⟨_,(ssL (acZ (iLc (K:=K) (eCB cSrt ZZ.et PyProof.Rows.boot_sorted (A1 (eCT cSet ZZ.e3 PyProof.Rows.boot_set (A1 (eIx (xTc (K:=K)) Y0 eI)))))) (gN 1 Uf.nd) (ssL (aaI 2 (abO (A1 (eIx (xLc (K:=K)) (abO (ar5 [31,28,31,30,31,30,31,31,30,31,30,31])) (eOp aa7 Y1 eI)))) Uf.nd) (ai1 (sIf (tCm oEq Y1 eI) (ss1 (aaI 2 (abO (A2 eI eI)) Uf.nd)) ssN) (ss1 (acZ (iLc (K:=K) Y2) (gN 3 Uf.nd) (ss1 (acZ (iR1 ZZ.aa (A1 eI)) (gN 4 Uf.nd) (ss1 (acZ (iR2 ZZ.aa (A2 eI (eOp aaM Y3 eI))) (gN 5 Uf.nd) (ss1 (sIf (tVa (eD (adV ZZ) hr (aC Y0 (A3 Y5 Y3 Y4)))) (ss1 (aaH eB)) ssN)) PassesOwn.never)) PassesOwn.never)) PassesOwn.never)))) PassesOwn.never) (ss1 (aaH eB))),?_⟩
 extract_lets;refine⟨(),s0,_,(()),SqT.of (hs),rfl,Mn,ns,rfl,SqL.of hMn,⋯,λS0 hS0=>⟨S0,ns,rfl,aaA,(λx hx=>by have:=hns x hx;omega),λDD zs hD hpw hmem=>?_⟩⟩;refine⟨DD,rfl,⟨_,SqL.of aaA⟩,ab7 (K:=K) (a:=DD) (xs:=zs.map V.int) (λi σ H2=>∃v1 v2 v3' v4 v5':Option V,σ=[some (.ref s0),v1,v2,v3',v4,v5']/\Same H H2/\H2 DD=some (.lst (zs.map V.int))/\Nvl (zs.take i) kd kw) ⟨_,_,_,_,(),(aaB hS0 _).trans (aaB hD _),aaA,λm hm=>nomatch hm⟩ (λi σ H2 _ ⟨_,_,_,_,_,_,_,z,_⟩=>SqL.of z) ?turn ?done⟩
 case done=>
  rintro σ H2 ⟨v1,v2,v3',v4,v5',rfl,s2,_,hN⟩;rw[aR,cQ] at hN;exact q true H2 s2 ⟨λ_ m hm=>hN m ((hmem m).mpr hm),λ_=>rfl⟩
 case turn=>
  rintro i x σ H2 hx ⟨v1,v2,v3',v4,v5',rfl,s2,hz,hN⟩;rw[bC] at hx;obtain⟨m,em,rfl⟩:∃m,zs[i]? =some m/\V.int m=x:=by
   cases ez:zs[i]? with
   |none=>rw[ez] at hx;cases hx
   |some m=>rw[ez] at hx;exact⟨m,rfl,aZ hx⟩
  have hmn:m∈ns:=(hmem m).mp (bU em);have hm12:=hns m hmn;refine⟨(zL 12),λL1 h1=>⟨(),(()),L1,_,(()),SqL.of aaA,ah5 hm12.1 hm12.2,(zL 1),λL2' h2=>?_⟩⟩;have s3:=(aaB h1 (.lst (lasts.map V.int))).trans (aaB h2 (.lst [V.int (lasts.getD (m-1).toNat 0)]));refine⟨(λσ' H'=>∃E:Addr,σ'=[some (.ref s0),some (.int m),some (.ref E),v3',v4,v5']/\Same H2 H'/\H' E=some (.lst ((ends m).map V.int))),?_,?_⟩
  ·refine⟨(),rfl,(),ifI (λc=>?_) (λc=>?_)⟩
   ·exact⟨(zL 2),λL3 h3'=>⟨L3,rfl,s3.trans (aaB h3' _),by unfold ends;rw[if_pos c];exact aaA⟩⟩
   ·exact⟨L2',rfl,s3,by unfold ends;rw[if_neg c];exact aaA⟩
  rintro σ' H3 ⟨E,rfl,s23,hE⟩;have s03:=s2.trans s23;refine⟨(),E,rfl,⟨_,SqL.of hE⟩,ab7 (K:=K) (a:=E) (xs:=(ends m).map V.int) (λj σ Hc=>∃v3' v4 v5':Option V,σ=[some (.ref s0),some (.int m),some (.ref E),v3',v4,v5']/\Same H3 Hc/\∀l∈(ends m).take j,∀f:Nat,f<7->∀d:Nat,d<l.toNat->tb (aaO kd kw l f) (d+1)=false) ⟨_,_,(),Same.refl _,λl hl=>nomatch hl⟩ (λj σ Hc _ ⟨_,_,_,_,z,_⟩=>SqL.of (z _ _ hE)) ?tn ?dn⟩
  case dn=>
   rintro σ Hc ⟨w3,w4,w5,rfl,sc,hl⟩;rw[aR,cQ] at hl;refine⟨_,_,_,_,(),s03.trans sc,sc _ _ (s23 _ _ hz),λm' hm'=>?_⟩;rw[b8,em] at hm';rcases bO.mp hm' with z | z
   ·exact hN m' z
   ·obtain rfl:m'=m:=by simpa using z
    exact hl
  case tn=>
   rintro j x σ Hc hx ⟨w3,w4,w5,rfl,sc,hlj⟩;rw[bC] at hx;obtain⟨l,el,rfl⟩:∃l,(ends m)[j]? =some l/\V.int l=x:=by
    cases ez:(ends m)[j]? with
    |none=>rw[ez] at hx;cases hx
    |some l=>rw[ez] at hx;exact⟨l,rfl,aZ hx⟩
   have hle:=bU el;have l31:=aE1 hm12.1 hm12.2 hle;refine⟨(),by decide,by decide,abG (λg σ Hd=>∃v4 v5':Option V,σ=[some (.ref s0),some (.int m),some (.ref E),some (.int l),v4,v5']/\Same Hc Hd/\∀f:Nat,f<g->∀d:Nat,d<l.toNat->tb (aaO kd kw l f) (d+1)=false) ⟨_,(),Same.refl _,λf hf=>absurd hf (dB _)⟩ ?t3 ?d3⟩
   case d3=>
    rintro σ Hd ⟨u4,u5,rfl,sd,hf⟩;refine⟨_,_,(),sc.trans sd,λl' hl'=>?_⟩;rw[b8,el] at hl';rcases bO.mp hl' with z | z
    ·exact hlj l' z
    ·obtain rfl:l'=l:=by simpa using z
     exact hf
   case t3=>
    rintro g σ Hd hg ⟨u4,u5,rfl,sd,hf⟩;have hg7:g<7:=hg;have lf:Lf l (0+(g:Int)):=⟨l31,⋯,⋯⟩;refine⟨(),(()),_,(),⟨by decide,by decide,⋯,⋯⟩,abG (λdd σ He=>∃v5':Option V,σ=[some (.ref s0),some (.int m),some (.ref E),some (.int l),some (.int (0+(g:Int))),v5']/\Same Hd He/\∀d:Nat,d<dd->tb (aaO kd kw l g) (d+1)=false) ⟨(),Same.refl _,λd hd=>absurd hd (dB _)⟩ ?t4 ?d4⟩
    case d4=>
     rintro σ He ⟨w',rfl,se,hd⟩;refine⟨_,(),sd.trans se,λf hf' d hd'=>?_⟩;rcases cL f g with z | z
     ·exact hf f z d hd'
     ·rw[show f=g by omega];exact hd d ⋯
    case t4=>
     rintro dd σ He hdd ⟨w',rfl,se,hd⟩;have hdl:dd<(l+1-1).toNat:=hdd;have s0e:=s03.trans (sc.trans (sd.trans se));have ed:(1+(dd:Int)).toNat=dd+1:=⋯;refine⟨(),(),(),(),s0,x0,x1,x2,v3,.ref Mn,v5,kd,kw,1+(dd:Int),l,0+(g:Int),rfl,s0e _ _ hs,h3.keep s0e,h5.keep s0e,lf,⟨⋯,⋯⟩,λHf sf=>⟨(),?_⟩⟩;rw[ed,Int.zero_add];cases c:tb (aaO kd kw l (g:Int)) (dd+1) with
     |true=>
      refine aa4 (q false Hf (s0e.trans sf) ⟨(λz=>by cases z),λz=>?_⟩);have y:=z m hmn l hle g hg7 dd ⋯;rw[c] at y;cases y
     |false=>
      refine aaU ⟨(),se.trans sf,λd hd'=>?_⟩;rcases cL d dd with y | y
      ·exact hd d y
      ·rw[show d=dd by omega];exact c
theorem apV:Dx P w base ZZ.dv 4 (arM K):=by
 refine ZZ.dv.dfs Ui (by trivial) ?_;rintro _ _ _ _ s H _ Q E hr⟨a,c0,c1,c2,c3,c4,bm,rfl,hC,q⟩;refine⟨_,(ssL (aaI 2 (eD (acP ZZ) hr (aC (eIx (xLc (K:=K)) Y0 eI) (A3 eI eI Y1))) Ui.nd) (ssL (aaI 3 (eD (acP ZZ) hr (aC (eIx (xLc (K:=K)) Y0 eI) (A3 eI eI Y1))) Ui.nd) (ssL (aaI 4 (eD (ar0 ZZ) hr (A2 (eIx (xLc (K:=K)) Y0 eI) Y1)) Ui.nd) (ssL (aaI 5 (eD (acP ZZ) hr (aC (eIx (xLc (K:=K)) Y0 eI) (A3 eI eI Y1))) Ui.nd) (ssL (aaI 6 (eD (ai8 ZZ) hr (A2 (eIx (xLc (K:=K)) Y0 eI) Y1)) Ui.nd) (ssL (aaI 7 (eD (abX ZZ) hr (A3 (eOp aaM (eOp acM (eIx (xLc (K:=K)) Y0 eI) eI) eI) (abO (A3 eI eI eI)) eB)) Ui.nd) (ai1 (sIf (tW (ajW (tVa Y1) (aeM (tCm oEq (eIx (xLc (K:=K)) Y7 eI) eI)))) (ssL (aaI 5 (abE (A2 (eSx [50]) (abO (A1 eI)))) Ui.nd) (ssL (aaI 4 (abE (A2 (eSx [50,57]) (abO (A1 (abE (A3 (eSx [110,117,109]) (abO (A1 eI)) eI)))))) Ui.nd) (ssL (aaI 6 (abE (A2 (eSx [42]) eN)) Ui.nd) (ss1 (sIf (tCm oEq (eIx (xLc (K:=K)) Y7 eI) eI) (ssL (aaI 4 (abE (A2 (eSx [42]) eN)) Ui.nd) (ss1 (aaI 6 (abE (A2 (eOp ac5 (eCT ac1 ZZ.ae PyProof.Rows.boot_str (A1 (eIx (xLc (K:=K)) Y7 eI))) (eSx [35,53])) (abO (A1 (abE (A3 (eSx [110,116,104]) (eOp abD (eIx (xLc (K:=K)) Y7 eI) eI) eI)))))) Ui.nd))) ssN))))) ssN) (ssL (aaI 8 (axT (eSx [32]) (abO (aC (eIx (xTc (K:=K)) Y2 eI) (aC (eIx (xTc (K:=K)) Y3 eI) (A3 (eIx (xTc (K:=K)) Y4 eI) (eIx (xTc (K:=K)) Y5 eI) (eIx (xTc (K:=K)) Y6 eI)))))) Ui.nd) (ss1 (aaH (abE (aC Y8 (aC (eIx (xTc (K:=K)) Y2 eI) (aC (eIx (xTc (K:=K)) Y3 eI) (A3 (eIx (xTc (K:=K)) Y4 eI) (eIx (xTc (K:=K)) Y5 eI) (eIx (xTc (K:=K)) Y6 eI)))))))))))))))),?_⟩
 extract_lets;refine⟨(),a,_,(()),hC,rfl,(),c0,0,59,bm,rfl,⟨by decide,by decide,by decide⟩,λt0 N0 w0 ns0 H1 s1 h0 hN0 in0 ne0 ln0 f0=>?_⟩;refine⟨(),a,_,(()),s1.seq hC,rfl,(),c1,0,23,bm,rfl,⟨by decide,by decide,by decide⟩,λt1 N1 w1 ns1 H2 s2 h1 hN1 in1 ne1 ln1 f1=>?_⟩;have s12:=s1.trans s2;refine⟨(),a,_,(()),s12.seq hC,rfl,(),c2,bm,rfl,λt2 w2 v2 kd H3 s3 h2 d2 mv2=>?_⟩;have s13:=s12.trans s3;refine⟨(),a,_,(()),s13.seq hC,rfl,(),c3,1,12,bm,rfl,⟨by decide,by decide,by decide⟩,λt3 N3 w3 ns3 H4 s4 h3 hN3 in3 ne3 ln3 f3=>?_⟩
 have s14:=s13.trans s4;refine⟨(),a,_,(()),s14.seq hC,rfl,(),c4,bm,rfl,λt4 w4 v4 kw H5 s5 h4 d4 mv4=>?_⟩;have s15:=s14.trans s5;have e3:∀z∈([12,2,8]:List Int),0<z/\z<1073741824:=by decide
 refine⟨(),a,_,(()),s15.seq hC,rfl,(()),⟨by decide,by decide⟩,(()),(zL 3),λls hls=>⟨_,ls,true,[12,2,8],rfl,SqL.of aaA,e3,(by decide),λds rr H6 s6 hrr hd=>?_⟩⟩;obtain⟨r0,er0,_,_⟩:=adP (i:=0) hd rfl;obtain⟨r1,er1,_,_⟩:=adP (i:=1) hd rfl;obtain⟨dq,er2,k0,k1⟩:=adP (i:=2) hd rfl;have s56:=(aaB hls (.lst [V.int 12,V.int 2,V.int 8])).trans s6;refine⟨(λσ' H'=>∃(t2' t3' t4' N3':Addr) (w2' w3' w4':List Nat) (v2' v4':V) (ms:List Int) (kd' kw':Ko),σ'=[some (.ref a),some (.bl bm),some (.ref t0),some (.ref t1),some (.ref t2'),some (.ref t3'),some (.ref t4'),some (.ref rr),none]/\Same H6 H'/\(H' t2'=some (.tup [.str (Tx w2'),v2'])/\DT false w2' kd'/\MV H' v2' kd')/\(H' t3'=some (.tup [.str (Tx w3'),.ref N3'])/\H' N3'=some (.lst (ms.map V.int))/\(∀n∈ms,1<=n/\n<=12)/\ms.length<=200/\FT 1 12 w3' (aaG ms))/\H' t4'=some (.tup [.str (Tx w4'),v4'])/\DT true w4' kw'/\MV H' v4' kw'),?_,?_⟩
 ·have g2:=(s4.trans (s5.trans s56)) _ _ h2;have g3:=(s5.trans s56) _ _ h3;have gN:=(s5.trans s56) _ _ hN3;have g4:=s56 _ _ h4;have old:∃(t2' t3' t4' N3':Addr) (w2' w3' w4':List Nat) (v2' v4':V) (ms:List Int) (kd' kw':Ko),[some (V.ref a),some (.bl bm),some (.ref t0),some (.ref t1),some (.ref t2),some (.ref t3),some (.ref t4),some (.ref rr),none]=[some (V.ref a),some (.bl bm),some (.ref t0),some (.ref t1),some (.ref t2'),some (.ref t3'),some (.ref t4'),some (.ref rr),none]/\Same H6 H6/\(H6 t2'=some (.tup [.str (Tx w2'),v2'])/\DT false w2' kd'/\MV H6 v2' kd')/\(H6 t3'=some (.tup [.str (Tx w3'),.ref N3'])/\H6 N3'=some (.lst (ms.map V.int))/\(∀n∈ms,1<=n/\n<=12)/\ms.length<=200/\FT 1 12 w3' (aaG ms))/\H6 t4'=some (.tup [.str (Tx w4'),v4'])/\DT true w4' kw'/\MV H6 v4' kw':=⟨t2,t3,t4,N3,w2,w3,w4,v2,v4,ns3,kd,kw,rfl,Same.refl _,⟨g2,d2,mv2.keep (s4.trans (s5.trans s56))⟩,⟨g3,gN,in3,ln3,f3⟩,g4,d4,mv4.keep s56⟩
  refine⟨(),(),?_⟩;cases bm with
  |false=>exact aaU (aaU old)
  |true=>
   refine aa4 ⟨(),rr,_,(()),SqL.of (hrr),aeD er0,rfl,(),ifI (λ_=>?_) (λ_=>old)⟩;refine⟨(zL 1),λl1 nn1=>?_⟩;have r1:=aaB nn1 (.lst [V.int 2]);have G1:upd H6 l1 (.lst [V.int 2]) l1=some (.lst [V.int 2]):=aaA;generalize upd H6 l1 (.lst [V.int 2])=E1 at r1 G1 ⊢;refine⟨(zL 2),λt3' nn2=>?_⟩;have r2:=aaB nn2 (.tup [.str (Tx [50]),.ref l1]);have G2:upd E1 t3' (.tup [.str (Tx [50]),.ref l1]) t3'=some (.tup [.str (Tx [50]),.ref l1]):=aaA
   generalize upd E1 t3' (.tup [.str (Tx [50]),.ref l1])=E2 at r2 G2 ⊢;refine⟨(zL 1),λl2 nn3=>?_⟩;have r3:=aaB nn3 (.lst [V.int 29]);have G3:upd E2 l2 (.lst [V.int 29]) l2=some (.lst [V.int 29]):=aaA;generalize upd E2 l2 (.lst [V.int 29])=E3 at r3 G3 ⊢;refine⟨(zL 3),λu2 nn4=>?_⟩;have r4:=aaB nn4 (.tup [.str (Tx [110,117,109]),.ref l2,.int 0]);have G4:upd E3 u2 (.tup [.str (Tx [110,117,109]),.ref l2,.int 0]) u2=some (.tup [.str (Tx [110,117,109]),.ref l2,.int 0]):=aaA
   generalize upd E3 u2 (.tup [.str (Tx [110,117,109]),.ref l2,.int 0])=E4 at r4 G4 ⊢;refine⟨(zL 1),λl3 nn5=>?_⟩;have r5:=aaB nn5 (.lst [V.ref u2]);have G5:upd E4 l3 (.lst [V.ref u2]) l3=some (.lst [V.ref u2]):=aaA;generalize upd E4 l3 (.lst [V.ref u2])=E5 at r5 G5 ⊢;refine⟨(zL 2),λt2' nn6=>?_⟩;have r6:=aaB nn6 (.tup [.str (Tx [50,57]),.ref l3]);have G6:upd E5 t2' (.tup [.str (Tx [50,57]),.ref l3]) t2'=some (.tup [.str (Tx [50,57]),.ref l3]):=aaA
   generalize upd E5 t2' (.tup [.str (Tx [50,57]),.ref l3])=E6 at r6 G6 ⊢;refine⟨(zL 2),λt4' nn7=>?_⟩;have r7:=aaB nn7 (.tup [.str (Tx [42]),.non]);have G7:upd E6 t4' (.tup [.str (Tx [42]),.non]) t4'=some (.tup [.str (Tx [42]),.non]):=aaA;generalize upd E6 t4' (.tup [.str (Tx [42]),.non])=E7 at r7 G7 ⊢;have in2:∀n∈[(2:Int)],1<=n/\n<=12:=λn hn=>by rw[bJ.mp hn];decide
   have mv29:∀{H':Hp},Same E7 H'->MV H' (.ref l3) (some [.num (aaG [29])]):=λ{H'} s=>.inr ⟨l3,(()),s _ _ (r7 _ _ (r6 _ _ (G5))),.cons ⟨u2,_,_,(),s _ _ (r7 _ _ (r6 _ _ (r5 _ _ (G4)))),rfl,l2,[29],rfl,s _ _ (r7 _ _ (r6 _ _ (r5 _ _ (r4 _ _ (G3))))),rfl,λn hn=>by rw[bJ.mp hn];decide⟩ .nil,λk hk=>by rw[bJ.mp hk];exact (aa9 [29]:(0:Int)<=aaG [29])⟩;refine⟨(),rr,_,(()),SqL.of ((((((((r1.trans r2).trans r3).trans r4).trans r5).trans r6).trans r7)) _ _ hrr),aeD er1,rfl,(),ifI (λ_=>?_) (λ_=>⟨t2',t3',t4',l1,[50,57],[50],[42],_,_,[2],_,(),((((((r1.trans r2).trans r3).trans r4).trans r5).trans r6).trans r7),⟨r7 _ _ (G6),aI7,mv29 (Same.refl _)⟩,⟨r7 _ _ (r6 _ _ (r5 _ _ (r4 _ _ (r3 _ _ (G2))))),r7 _ _ (r6 _ _ (r5 _ _ (r4 _ _ (r3 _ _ (r2 _ _ (G1)))))),in2,(by decide),aC0⟩,G7,alQ true,.inl ⟨rfl,rfl⟩⟩)⟩
   have sm:=ajE (z:=dq) ⋯ ⋯;refine⟨(zL 2),λt2'' nn8=>?_⟩;have r8:=aaB nn8 (.tup [.str (Tx [42]),.non]);have G8:upd E7 t2'' (.tup [.str (Tx [42]),.non]) t2''=some (.tup [.str (Tx [42]),.non]):=aaA;generalize upd E7 t2'' (.tup [.str (Tx [42]),.non])=E8 at r8 G8 ⊢;refine⟨(),rr,_,(()),SqL.of (r8 _ _ ((((((((r1.trans r2).trans r3).trans r4).trans r5).trans r6).trans r7)) _ _ hrr)),aeD er2,dq.toNat,sm.2.1,sm.1,(()),(by rw[eU];show _+2<=_;have:=sm.2.2.1;omega),(),rr,_,(()),SqL.of (r8 _ _ ((((((((r1.trans r2).trans r3).trans r4).trans r5).trans r6).trans r7)) _ _ hrr)),aeD er2,(()),(by show (0:Int)<7;decide),(zL 3),λu3 nn9=>?_⟩
   have r9:=aaB nn9 (.tup [.str (Tx [110,116,104]),.int (dq%7),.int 5]);have G9:upd E8 u3 (.tup [.str (Tx [110,116,104]),.int (dq%7),.int 5]) u3=some (.tup [.str (Tx [110,116,104]),.int (dq%7),.int 5]):=aaA;generalize upd E8 u3 (.tup [.str (Tx [110,116,104]),.int (dq%7),.int 5])=E9 at r9 G9 ⊢;refine⟨(zL 1),λl4 nn10=>?_⟩;have r10:=aaB nn10 (.lst [V.ref u3]);have G10:upd E9 l4 (.lst [V.ref u3]) l4=some (.lst [V.ref u3]):=aaA
   generalize upd E9 l4 (.lst [V.ref u3])=E10 at r10 G10 ⊢;refine⟨(zL 2),λt4'' nn11=>?_⟩;have r11:=aaB nn11 (.tup [.str (Tx (num dq.toNat++[35,53])),.ref l4]);have G11:upd E10 t4'' (.tup [.str (Tx (num dq.toNat++[35,53])),.ref l4]) t4''=some (.tup [.str (Tx (num dq.toNat++[35,53])),.ref l4]):=aaA;generalize upd E10 t4'' (.tup [.str (Tx (num dq.toNat++[35,53])),.ref l4])=E11 at r11 G11 ⊢;exact⟨t2'',t3',t4'',l1,[42],[50],_,_,_,[2],_,(),(((((((r1.trans r2).trans r3).trans r4).trans r5).trans r6).trans r7)).trans ((((r8.trans r9).trans r10).trans r11)),⟨r11 _ _ (r10 _ _ (r9 _ _ (G8))),alQ false,.inl ⟨rfl,rfl⟩⟩,⟨((((r8.trans r9).trans r10).trans r11)) _ _ (r7 _ _ (r6 _ _ (r5 _ _ (r4 _ _ (r3 _ _ (G2)))))),((((r8.trans r9).trans r10).trans r11)) _ _ (r7 _ _ (r6 _ _ (r5 _ _ (r4 _ _ (r3 _ _ (r2 _ _ (G1))))))),in2,(by decide),aC0⟩,G11,rr5 k0 k1,.inr ⟨l4,(()),r11 _ _ (G10),.cons ⟨u3,_,_,(),r11 _ _ (r10 _ _ (G9)),rfl,rfl,rfl⟩ .nil,λk hk=>by rw[bJ.mp hk];exact⟨⟨⋯,⋯⟩,by decide,by decide⟩⟩⟩
 rintro σ' H7 ⟨t2',t3',t4',N3',w2',w3',w4',v2',v4',ms,kd',kw',rfl,s7,⟨g2,d2',mv2'⟩,⟨g3,gN,inm,lnm,f3'⟩,g4,d4',mv4'⟩;have s57:=s56.trans s7;have s27:=s3.trans (s4.trans (s5.trans s57));have g0:=(s2.trans s27) _ _ h0;have g1:=s27 _ _ h1;refine⟨rfl,(),t0,_,(()),SqT.of (g0),rfl,(),t1,_,(()),SqT.of (g1),rfl,(),t2',_,(()),SqT.of (g2),rfl,(),t3',_,(()),SqT.of (g3),rfl,(),t4',_,(()),SqT.of (g4),rfl,(zL 5),λL hL=>?_⟩
 have sL:=aaB hL (.lst [V.str (Tx w0),V.str (Tx w1),V.str (Tx w2'),V.str (Tx w3'),V.str (Tx w4')]);refine⟨32,L,[w0,w1,w2',w3',w4'],rfl,rfl,SqL.of aaA,?len,?_⟩
 case len=>
  have:=f0.len;have:=f1.len;have:=f3'.len;have:=d2'.2.1.len;have:=d4'.2.1.len;show (w0++32::(w1++32::(w2'++32::(w3'++32::w4')))).length<=1000000;simp only[aY,bZ];omega
 refine⟨(),(),t0,_,(()),SqT.of (sL _ _ g0),rfl,(),t1,_,(()),SqT.of (sL _ _ g1),rfl,(),t2',_,(()),SqT.of (sL _ _ g2),rfl,(),t3',_,(()),SqT.of (sL _ _ g3),rfl,(),t4',_,(()),SqT.of (sL _ _ g4),rfl,(zL 6),λt ht=>?_⟩;have sT:=sL.trans (aaB ht (.tup [.str (Tx (aaY 32 [w0,w1,w2',w3',w4'])),.ref N0,.ref N1,v2',.ref N3',v4']));have l60:=al6 (n:=60) (λz hz=>by have:=in0 z hz;omega);have l24:=al6 (n:=24) (λz hz=>by have:=in1 z hz;omega)
 exact q t w0 w1 w2' w3' w4' ns0 ns1 ms kd' kw' _ (s15.trans (s57.trans sT)) ⟨_,_,_,_,_,aaA⟩ ⟨_,_,_,N0,N1,N3',aaA,sT _ _ ((s2.trans s27) _ _ hN0),sT _ _ (s27 _ _ hN1),sT _ _ gN,mv2'.keep sT,mv4'.keep sT,in0,in1,inm⟩ ⟨ne0,ne1,lnm⟩ f0 f1 f3' d2' d4' ⟨l60,l24⟩
theorem anV:Dx P w base ZZ.c9 10 (aoC K):=by
 refine ZZ.c9.dfs anP (by trivial) ?_;rintro _ _ _ _ s H _ Q E hr⟨s0,ns0,ns1,ns3,kd,kw,mo,v,l,us,rfl,hL,hln,hl,hor,q⟩;refine⟨_,(ssL (sIf (tCm aeI Y2 eN) (ss1 (aaH (ahO (acD (oEqE hr.units) Y3 (abO aN)) (ae4 (eD (anS ZZ) hr (A1 Y0)))))) ssN) (ssL (sIf (tW (wOr (tNo (tVa (eD (adR ZZ) hr (A1 Y2)))) (wOr (tCm oLt Y2 Y1) (ae9 (tCm oGt (eCB (afA (K:=K)) ZZ.ag PySem.boot_len (A1 Y3)) eI))))) (ss1 (aaH eB)) ssN) (ssL (sIf (tCm oNe (eD (aiO ZZ) hr (A2 Y0 Y2)) (eSx [110,111,110,101])) (ss1 (aaH eB)) ssN) (ss1 (aaH (eD (al8 ZZ) hr (aC Y0 (aC Y1 (A3 (eOp aa7 Y2 eI) Y3 eB))))))))),?_⟩
 extract_lets;obtain⟨x0,v3,v5,a0,a1,a3,hs,h0,h1,h3,hv3,hv5,b0,b1,b3⟩:=id hL;refine⟨(),rfl,(),?_⟩;rcases hor with ⟨rfl,rfl,hN⟩ | ⟨e,sts,rfl,hme,hlen,hP,hcv,hH⟩
 ·refine ifD (λ_=>?_) (λc=>absurd rfl c);refine⟨(),(zL 0),λl0 n0=>?_⟩;have s1:=aaB n0 (.lst []);refine⟨l,l0,[],rfl,rfl,SqL.of (s1 _ _ hl),SqL.of aaA,(),ifT (eZ rfl) ?_⟩;refine⟨(),s0,x0,.ref a0,.ref a1,v3,v5,a3,kd,kw,ns3,rfl,s1 _ _ hs,s1 _ _ h3,b3,hln,hv3.keep s1,hv5.keep s1,λb H1 s2 hb=>?_⟩;obtain rfl:b=true:=hb.mpr hN;exact q _ (s1.trans s2)
 refine ifD (λc=>by cases c) (λ_=>?_);refine⟨(),e,rfl,(),ifF rfl ⟨(),(),(()),(),ifD (λc=>absurd c ⋯) (λ_=>⟨(),l,(),.inl (SqL.of hl),(()),(),ifD (λc=>absurd c ⋯) (λ_=>?_)⟩)⟩⟩;refine⟨(),(),s0,ns0,ns1,ns3,kd,kw,e,rfl,hL,λy m k H1 ok ed s1=>?_⟩;rw[aG9 hH.hn hH.hb hH.hg hH.ev y m k ok ed];refine⟨rfl,(),?_⟩;show if (!decide (V.str (Tx [110,111,110,101])=V.str (Tx [110,111,110,101])))=true then _ else _
 refine awP (λc=>absurd rfl c) (λ_=>?_);have hP1:Paired (TpX H1) us sts:=Paired.mapP hP λ_ _ z=>amS (λb xs hb=>s1 _ _ hb) z;exact⟨(),(),(),(()),(),s0,ns0,ns1,ns3,kd,kw,mo,e-1,l,us,sts,rfl,hL.keep s1,s1 _ _ hl,hP1,(by rw[show e-1+1=e by omega];exact hcv),⟨e,hH⟩,λH2 s2=>q H2 (s1.trans s2)⟩
theorem aK3{fL:Addr}{fdL:FuncData}(F:Fun K "law" "law" (top 139) fL fdL):FnOk P w K mg base CX0 12 fL fdL ["_law_script"] (aqJ K aK aL):=by
 refine F.oks Uy (by trivial) ?_;rintro _ _ _ s H _ Q E hr⟨a,ns,rfl,hS,hlen,hT,q⟩;refine⟨_,(ssL (aaI 1 (acD oEq (eOp abD (eD (aeS ZZ) hr (A2 Y0 eI)) eI) eI) Uy.nd) (ssL (acZ (iR1 ZZ.aa (A1 eI)) (gN 2 Uy.nd) (ssL (aBH 3 ["_law_script","_law_k"] [0,2] (iR1 ZZ.aa (A1 eI)) (λ_ _ _ _ _ _=>fsN) (λ_ _ _ _ _ _=>(eD (aeS ZZ) hr (A2 Y1 (eOp aaM (eOp aaM eI (eOp acL eI Y2)) Y0)))) Uy.nd) (ssL (aaI 4 (eD (apV ZZ) hr (A2 (eSl (azY (K:=K)) Y3 poN (poS eI)) Y1)) Uy.nd) (ssL (aaI 5 (eD (al7 ZZ) hr (A2 (eIx (xLc (K:=K)) Y3 eI) Y1)) Uy.nd) (ssL (aaI 6 (eD (arT ZZ) hr (A2 (eD (auY ZZ) hr (A1 (eIx (xTc (K:=K)) Y4 eI))) Y5)) Uy.nd) (ssL (sIf (tW (wOr (tNo (tVa (eCB cIs ZZ.ab PyProof.Rows.boot_isinstance (A2 Y6 (eTy ZZ.b5 PyProof.Rows.boot_tuple))))) (wOr (tCm oNe (eCB (afA (K:=K)) ZZ.ag PySem.boot_len (A1 Y6)) eI) (ae9 (tNo (tVa (eCB cIs ZZ.ab PyProof.Rows.boot_isinstance (A2 (eIx (xTc (K:=K)) Y6 eI) (eTy ZZ.an PyProof.Rows.boot_list))))))))) (ss1 (aaH eB)) ssN) (ss1 (sIf (tNo (tVa (eD (anV ZZ) hr (aC Y4 (A3 Y5 (eIx (xTc (K:=K)) Y6 eI) (eIx (xTc (K:=K)) Y6 eI)))))) (ss1 (aaH eB)) ssN))))))) PassesOwn.never) (ss1 (aaH eB)))),?_⟩
 extract_lets;refine⟨(),a,(),⟨ns,hS⟩,⟨by decide,by decide⟩,λc0=>⟨(()),(by show (0:Int)<2;decide),rfl,?_⟩⟩;obtain⟨bm,ebm⟩:∃bm,bm=decide (V.int (c0%2)=V.int 1):=⟨()⟩;show ab8 1 (V.bl (decide (V.int (c0%2)=V.int 1))) _ _ _;rw[←ebm];refine⟨(),by decide,by decide,abG (λi σ H2=>∃v2 v3 v4 v5 v6:Option V,σ=[some (.ref a),some (.bl bm),v2,v3,v4,v5,v6]/\SameN H H2/\awA H2 aK aL) ⟨_,_,_,_,(),aeW (Same.refl _),hT⟩ ?turn ?done⟩
 case done=>
  rintro σ H2 ⟨v2,v3,v4,v5,v6,rfl,_⟩;exact q H2
 case turn=>
  rintro i σ H2 hi ⟨v2,v3,v4,v5,v6,rfl,sN,hT2⟩;have hi2:i<2:=hi;refine⟨(),by decide,by decide,adE (λi z=>∃cs:List Int,cs.length=i/\z=cs.map V.int) (zL 6) ⟨[],rfl,rfl⟩ ?st ?dn⟩
  case st=>
   rintro j z D H3 E' F' hj ⟨cs,hl,rfl⟩ hD s3 hz hE hF;have hj':j<6:=hj;exact⟨(),(),(()),.inl ⟨by decide,by decide⟩,(()),(),(()),a,(),⟨ns,s3.seq (azW sN hS)⟩,⟨⋯,⋯⟩,λc=>hE _ _ (Same.refl _) ⟨cs++[c],by rw[aY,hl];rfl,by rw[bB];rfl⟩⟩
  case dn=>
   rintro C H3 z ⟨cs,hl,rfl⟩ hD s3 hz;obtain⟨x0,x1,x2,x3,x4,x5,rfl⟩:∃x0 x1 x2 x3 x4 x5:Int,cs=[x0,x1,x2,x3,x4,x5]:=by
    match cs,hl with
    |[x0,x1,x2,x3,x4,x5],_=>exact⟨_,_,_,_,_,()⟩
   refine⟨(),(),C,(),SqL.of hz,λpc hpc=>?_⟩;have s4:=aaB hpc (.lst [V.int x0,V.int x1,V.int x2,V.int x3,V.int x4]);refine⟨(),pc,x0,x1,x2,x3,x4,bm,rfl,SqL.of aaA,λt w0 w1 w2 w3 w4 ns0 ns1 ns3 kd kw H5 s5 ⟨y1,y2,y3,y4,y5,ht⟩ hL ⟨ne0,ne1,hln⟩ f0 f1 f3 d2 d4 hb=>?_⟩;have s35:=s4.trans s5;refine⟨(),C,_,(()),SqL.of (s35 _ _ hz),rfl,(),x5,bm,rfl,λmo H6 s6=>?_⟩;refine⟨(),t,_,(()),SqT.of (s6 _ _ ht),rfl,w0,w1,w2,w3,w4,aaG ns0,aaG ns1,aaG ns3,kd,kw,rfl,f0,f1,f3,d2,d4,hb,λx dx dv wv tm H7 htm s7 hx hdv hwv=>?_⟩
   subst htm;have s27:Same H2 H7:=s3.trans (s35.trans (s6.trans s7));have hR:RowR (⟨aB,aE,aF,aH,aD,aA,aG,aI⟩:Cs) aJ H7 x (aaG ns0) (aaG ns1) (aaG ns3) (gO false kd) (gO true kw):=⟨dx,dv,wv,hx,⟨f0.nn,f1.nn,f3.nn⟩,⟨hb.2,hb.1⟩,hdv,hwv⟩;refine⟨(),x,mo,aaG ns0,aaG ns1,aaG ns3,gO false kd,gO true kw,rfl,hR,ajI s27 hT2,λt1 l1 us1 H8 v1 s8 T8 fr1 h1 hl1 c1=>?_⟩;refine⟨(),.ref t1,.tuple,.tuple,rfl,(by decide),.inr (.inl ⟨rfl,_,SqT.of h1⟩),(),ifF rfl ⟨(),t1,(),.inr (SqT.of h1),rfl,(),azQ (λc=>absurd rfl c) (λ_=>⟨(),t1,_,(()),SqT.of h1,rfl,.ref l1,.list,.list,rfl,(by decide),.inl ⟨rfl,_,SqL.of hl1⟩,(),ifF rfl ?_⟩)⟩⟩
   have hL7:=hL.keep (s6.trans s7);have hA:=hL7.all;have nn:0<=aaG ns0/\0<=aaG ns1/\0<=aaG ns3:=⟨f0.nn,f1.nn,f3.nn⟩;refine⟨(),(),(),t1,_,(()),SqT.of h1,rfl,(),t1,_,(()),SqT.of h1,rfl,t,ns0,ns1,ns3,kd,kw,mo,v1,l1,us1,rfl,hL7.keepN s8,hln,hl1,?_,λH9 s9=>⟨(),ifF rfl ⟨_,_,_,_,(),(sN.trans (aeW s27)).trans (s8.trans (aeW s9)),ajI s9 T8⟩⟩⟩;rcases c1 with ⟨e1,rfl,he1,⟨a1,a2⟩,_,sz1,sts1,hP1,cv1⟩ | ⟨rfl,rfl,hno1⟩
   ·have hH:Hit (aaG ns0) (aaG ns1) (aaG ns3) kd kw e1:=⟨nn,⟨hb.2,hb.1⟩,av2 nn.2.1 hb.2 nn.1 hb.1,hA.1.1,hA.1.2,(aCS d2 d4).mp he1⟩;have cv:=aHN d2 d4 cv1;have ln:=aFD hH (λt' u1 u2 z=>a2 t' u1 u2 ((aCS d2 d4).mpr z)) cv;exact .inr ⟨e1,sts1,rfl,a1,by rw[acE hP1];exact ln,hP1,cv,hH⟩
   ·exact .inl ⟨rfl,rfl,aJY ne0 ne1 hA.2.1 hA.2.2.1 hA.2.2.2 ⟨hb.2,hb.1⟩ hA.1.1 hA.1.2 λt' z=>hno1 t' ((aCS d2 d4).mpr z)⟩
end
theorem all_mk{l:PySem.W.OpenLaw}{w:World}{K:FG}{h:Heap}{mg:Str->Option Value}{fa f:Addr}{aI aB aE aF aH aD aA aG aJ aO aM aP aK aL a_MONTH_LASTS a_BOUNDS a_BOUNDS_0 a_BOUNDS_1 a_BOUNDS_3:Addr}{t_ROUND_DAYS t_ROUND_YEARS t_LONG_PLACE t_DAY_MINUTES t_HOUR_MINUTES t_FIGURES t_MOST_STRIDE t_MOST_SIGNS t_MOST_ITEMS t_SATURDAY t_SUNDAY t_MOST_BACK t_MOST_DAY t_SUNDAY_TOO t_MOST_NTH t_MOST_MARKS t_ALL_WEEKDAYS t_LONG_LAST t_SHORT_YEAR t_MINUTE t_HOUR t_DAY t_MONTH t_WEEKDAY t_MOST_ROW_SIGNS t_NO_PLACE t_MOST_MONTHS:Tok}{oc kV dc pm cd ct:Value}{od an:Option Addr}{sl:Array (Option Value)}(X:K.In h)(G:h.Ns mainGlobals mg)(hfa:mg "law"=some (.ref fa))(ZZ:Fs K mg aI aB aE aF aH aD aA aG aJ aO aM aP aK aL a_MONTH_LASTS a_BOUNDS a_BOUNDS_0 a_BOUNDS_1 a_BOUNDS_3 t_ROUND_DAYS t_ROUND_YEARS t_LONG_PLACE t_DAY_MINUTES t_HOUR_MINUTES t_FIGURES t_MOST_STRIDE t_MOST_SIGNS t_MOST_ITEMS t_SATURDAY t_SUNDAY t_MOST_BACK t_MOST_DAY t_SUNDAY_TOO t_MOST_NTH t_MOST_MARKS t_ALL_WEEKDAYS t_LONG_LAST t_SHORT_YEAR t_MINUTE t_HOUR t_DAY t_MONTH t_WEEKDAY t_MOST_ROW_SIGNS t_NO_PLACE t_MOST_MONTHS)
  (a:PySem.W.nsIn K mainGlobals "law"=some (some (.ref f))) (lk:K.lookup f=some ⟨oc,od,.func (PySem.W.fnOf "law" "law" (abC (top 139)) (aaX (top 139)) (aaC (top 139)) .none kV dc pm an cd ct),sl⟩) (c:PySem.W.codeIn K cd "law"=true) (k:PySem.W.keepIn K (.ref f)=true):
  ∃fd:FuncData,(∀(s:Shared) (v:Value),BindsTo s fd ⟨[v],[]⟩ [("_law_script",v)])/\∀base:Heap,K.In base->base.Ns mainGlobals mg->FnOk l.prog w K mg base CX0 12 fa fd ["_law_script"] (aqJ K aK aL):=by
 cases hfa.symm.trans (PySem.W.mg_of X G a);exact⟨_,λs v=>.of_eq rfl,λbase _ _=>aK3 ZZ (arK (st:=(top 139)) lk c k)⟩
theorem walk{l:PySem.W.OpenLaw}{q:Program}{loose:List Str}{XP:(Str->Option Value)->Heap->Prop}{YP:World->Heap->Prop}{d:DefRec}{K:Params->FG}{tN bm:Addr}(hn:l.most=some 63)(hdf:d.params.defaults=[])
  (hY:∀(w:World) (h:Heap),YP w h->(K w.params).In h)
  (hTb:∀(w:World) (h:Heap) (mean:ExcName->Option Value) (mg mb:Str->Option Value),(K w.params).In h->Top q (PySem.W.looseW q loose) mean mg mb h->∀b∈[tN],(isCodeTable h b/\h.get? b=some (PySem.W.tabObj #[]))/\(K w.params).lookup b=none)
  (hBm:∀(w:World) (h:Heap) (mg:Str->Option Value),(K w.params).In h->h.Ns mainGlobals mg->mg "__builtins__"=some (.ref bm)/\(K w.params).lookup bm=none)
  (F:∀(w:World) (mg:Str->Option Value) (fa:Addr) (h:Heap),(K w.params).In h->h.Ns mainGlobals mg->mg d.name=some (.ref fa)->
   ∃fd:FuncData,(∀(s:Shared) (u:Value),BindsTo s fd ⟨[u],[]⟩ [("_law_script",u)])/\∀base:Heap,(K w.params).In base->base.Ns mainGlobals mg->FnOk l.prog w (K w.params) mg base CX0 12 fa fd ["_law_script"] (aqJ (K w.params) tN bm)):
  PySem.W.WalkO q loose XP YP l.row.toRowW d [] (λf vs=>PySem.call f vs):=
 L2.walk_ofT (n:=63) (k:=12) (x:="_law_script") (tabs:=λ_=>[tN]) (sp:=λw=>aqJ (K w.params) tN bm) hn (by decide) hdf ⟨rfl,by decide,by decide⟩ hY hTb hBm F λ_ _ a ns hl hO hS=>⟨a,ns,rfl,hS,hl,⟨.inl (hO.1 _ bE),hO.2.2⟩,λ_=>rfl⟩
end K51
open PySem PySem.W PyProof.Rows L2
set_option maxRecDepth 100000 in
set_option maxHeartbeats 0 in
theorem PySem.Challenge.cw_fivefields_k51_next_walked_holds : PySem.Challenge.rw_fivefields_k51_next_walked.Holds := by
 w_on;refine holds_law Hd.ws fun said=>?_;refine Hd.lst said ?hw ?hc;(case hw=>w_witness2)
 k_fill
 refine K51.walk (l:=PySem.Challenge.rw_fivefields_k51_next_walked) (tN:=301) (bm:=4) rfl Hd.h4 (fun w h Y=>PySem.W.kIn_of Y) Hd.tb Hd.tbm ?F
 case F=>
  intro w mg fa h KX G hmg
  rw[Hd.h5] at hmg
  refine' K51.all_mk (aP:=305) (aK:=301) (aL:=4) KX G hmg ⟨
   ⟨PySem.W.mg_of KX G ?_,⟨?_,?_,?_,?_⟩,?_,?_⟩,?_,⟨PySem.W.mg_of KX G ?_,⟨?_,?_,?_,?_⟩,?_,?_⟩,?_,⟨PySem.W.mg_of KX G ?_,⟨?_,?_,?_,?_⟩,?_,?_⟩,?_,⟨PySem.W.mg_of KX G ?_,⟨?_,?_,?_,?_⟩,?_,?_⟩,?_,⟨PySem.W.mg_of KX G ?_,⟨?_,?_,?_,?_⟩,?_,?_⟩,?_,⟨PySem.W.mg_of KX G ?_,⟨?_,?_,?_,?_⟩,?_,?_⟩,?_,⟨PySem.W.mg_of KX G ?_,⟨?_,?_,?_,?_⟩,?_,?_⟩,?_,?_,⟨PySem.W.mg_of KX G ?_,⟨?_,?_,?_,?_⟩,?_,?_⟩,?_,⟨PySem.W.mg_of KX G ?_,⟨?_,?_,?_,?_⟩,?_,?_⟩,?_,?_,?_,?_,?_,?_,PySem.W.mg_of KX G ?_,PySem.W.mg_of KX G ?_,PySem.W.mg_of KX G ?_,K51.q_MONTH_LASTS ?_,PySem.W.mg_of KX G ?_,PySem.W.mg_of KX G ?_,PySem.W.mg_of KX G ?_,PySem.W.mg_of KX G ?_,PySem.W.mg_of KX G ?_,K51.mg_tx (x:="0123456789") KX G (by decide +kernel) ?_,PySem.W.mg_of KX G ?_,PySem.W.mg_of KX G ?_,PySem.W.mg_of KX G ?_,PySem.W.mg_of KX G ?_,PySem.W.mg_of KX G ?_,PySem.W.mg_of KX G ?_,PySem.W.mg_of KX G ?_,PySem.W.mg_of KX G ?_,PySem.W.mg_of KX G ?_,PySem.W.mg_of KX G ?_,PySem.W.mg_of KX G ?_,PySem.W.mg_of KX G ?_,PySem.W.mg_of KX G ?_,PySem.W.mg_of KX G ?_,PySem.W.mg_of KX G ?_,PySem.W.mg_of KX G ?_,PySem.W.mg_of KX G ?_,PySem.W.mg_of KX G ?_,PySem.W.mg_of KX G ?_,K51.q_BOUNDS ?_,K51.q_BOUNDS_0 ?_,K51.q_BOUNDS_1 ?_,K51.q_BOUNDS_3 ?_,PySem.W.mg_of KX G ?_,PySem.W.mg_of KX G ?_,PySem.W.mg_of KX G ?_,aEZ KX G ?_ ?_ ?_ ?_,PySem.W.mg_none_of KX G ?_,PySem.W.mg_none_of KX G ?_,PySem.W.mg_none_of KX G ?_,PySem.W.mg_none_of KX G ?_,PySem.W.mg_none_of KX G ?_,PySem.W.mg_none_of KX G ?_,PySem.W.mg_none_of KX G ?_,PySem.W.mg_none_of KX G ?_,PySem.W.mg_none_of KX G ?_,PySem.W.mg_none_of KX G ?_,PySem.W.mg_none_of KX G ?_,PySem.W.mg_none_of KX G ?_,PySem.W.mg_none_of KX G ?_,PySem.W.mg_none_of KX G ?_,PySem.W.mg_none_of KX G ?_,PySem.W.mg_none_of KX G ?_,aaK KX G ?_ ?_ ?_ ?_ ?_,aaK KX G ?_ ?_ ?_ ?_ ?_,aaK KX G ?_ ?_ ?_ ?_ ?_,aaK KX G ?_ ?_ ?_ ?_ ?_,aaK KX G ?_ ?_ ?_ ?_ ?_,aaK KX G ?_ ?_ ?_ ?_ ?_,aaK KX G ?_ ?_ ?_ ?_ ?_,aaK KX G ?_ ?_ ?_ ?_ ?_,aaK KX G ?_ ?_ ?_ ?_ ?_,aaK KX G ?_ ?_ ?_ ?_ ?_,aaK KX G ?_ ?_ ?_ ?_ ?_,aaK KX G ?_ ?_ ?_ ?_ ?_,aaK KX G ?_ ?_ ?_ ?_ ?_,aaK KX G ?_ ?_ ?_ ?_ ?_,aaK KX G ?_ ?_ ?_ ?_ ?_,aaK KX G ?_ ?_ ?_ ?_ ?_,aaK KX G ?_ ?_ ?_ ?_ ?_,aaK KX G ?_ ?_ ?_ ?_ ?_,aaK KX G ?_ ?_ ?_ ?_ ?_,aaK KX G ?_ ?_ ?_ ?_ ?_,aaK KX G ?_ ?_ ?_ ?_ ?_,aaK KX G ?_ ?_ ?_ ?_ ?_,aaK KX G ?_ ?_ ?_ ?_ ?_,aaK KX G ?_ ?_ ?_ ?_ ?_,aaK KX G ?_ ?_ ?_ ?_ ?_,aaK KX G ?_ ?_ ?_ ?_ ?_,aaK KX G ?_ ?_ ?_ ?_ ?_,aaK KX G ?_ ?_ ?_ ?_ ?_,abV ?_ ?_ ?_ ?_ ?_ ?_,abV ?_ ?_ ?_ ?_ ?_ ?_,abV ?_ ?_ ?_ ?_ ?_ ?_,K51.md_Last___init__ ?_ ?_ ?_ ?_ ?_ ?_,abV ?_ ?_ ?_ ?_ ?_ ?_,abV ?_ ?_ ?_ ?_ ?_ ?_,abV ?_ ?_ ?_ ?_ ?_ ?_,abV ?_ ?_ ?_ ?_ ?_ ?_,abV ?_ ?_ ?_ ?_ ?_ ?_,abV ?_ ?_ ?_ ?_ ?_ ?_,abV ?_ ?_ ?_ ?_ ?_ ?_,abV ?_ ?_ ?_ ?_ ?_ ?_,abV ?_ ?_ ?_ ?_ ?_ ?_,abV ?_ ?_ ?_ ?_ ?_ ?_,aaK KX G ?_ ?_ ?_ ?_ ?_,aaK KX G ?_ ?_ ?_ ?_ ?_,aaK KX G ?_ ?_ ?_ ?_ ?_,aaK KX G ?_ ?_ ?_ ?_ ?_,aaK KX G ?_ ?_ ?_ ?_ ?_,aaK KX G ?_ ?_ ?_ ?_ ?_,aaK KX G ?_ ?_ ?_ ?_ ?_,aaK KX G ?_ ?_ ?_ ?_ ?_,aaK KX G ?_ ?_ ?_ ?_ ?_,aaK KX G ?_ ?_ ?_ ?_ ?_,abV ?_ ?_ ?_ ?_ ?_ ?_,abV ?_ ?_ ?_ ?_ ?_ ?_,aaK KX G ?_ ?_ ?_ ?_ ?_,
   aaK KX G ?_ ?_ ?_ ?_ ?_,aaK KX G ?_ ?_ ?_ ?_ ?_,abV ?_ ?_ ?_ ?_ ?_ ?_,aaK KX G ?_ ?_ ?_ ?_ ?_,aaK KX G ?_ ?_ ?_ ?_ ?_,aaK KX G ?_ ?_ ?_ ?_ ?_,aaK KX G ?_ ?_ ?_ ?_ ?_,aaK KX G ?_ ?_ ?_ ?_ ?_,aaK KX G ?_ ?_ ?_ ?_ ?_,aaK KX G ?_ ?_ ?_ ?_ ?_,aaK KX G ?_ ?_ ?_ ?_ ?_,abV ?_ ?_ ?_ ?_ ?_ ?_,aaK KX G ?_ ?_ ?_ ?_ ?_,aaK KX G ?_ ?_ ?_ ?_ ?_,aJM KX G ?_ ?_ ?_ ?_ ?_,aaK KX G ?_ ?_ ?_ ?_ ?_,aaK KX G ?_ ?_ ?_ ?_ ?_,aaK KX G ?_ ?_ ?_ ?_ ?_,aaK KX G ?_ ?_ ?_ ?_ ?_,aaK KX G ?_ ?_ ?_ ?_ ?_,aaK KX G ?_ ?_ ?_ ?_ ?_,aaK KX G ?_ ?_ ?_ ?_ ?_,aaK KX G ?_ ?_ ?_ ?_ ?_,aaK KX G ?_ ?_ ?_ ?_ ?_,aaK KX G ?_ ?_ ?_ ?_ ?_,aaK KX G ?_ ?_ ?_ ?_ ?_,aaK KX G ?_ ?_ ?_ ?_ ?_,aaK KX G ?_ ?_ ?_ ?_ ?_,aaK KX G ?_ ?_ ?_ ?_ ?_,aaK KX G ?_ ?_ ?_ ?_ ?_,aaK KX G ?_ ?_ ?_ ?_ ?_,aaK KX G ?_ ?_ ?_ ?_ ?_,aaK KX G ?_ ?_ ?_ ?_ ?_,aaK KX G ?_ ?_ ?_ ?_ ?_,aaK KX G ?_ ?_ ?_ ?_ ?_,aaK KX G ?_ ?_ ?_ ?_ ?_,aaK KX G ?_ ?_ ?_ ?_ ?_,aaK KX G ?_ ?_ ?_ ?_ ?_,aaK KX G ?_ ?_ ?_ ?_ ?_,aaK KX G ?_ ?_ ?_ ?_ ?_,aaK KX G ?_ ?_ ?_ ?_ ?_⟩ ?_ ?_ ?_ ?_
  all_goals try (intro _ _ _ _ _ _ us hl;first | (obtain⟨_,rfl⟩:=aLD hl;rfl) | (obtain⟨_,_,rfl⟩:=aS8 hl;rfl) | (obtain⟨_,_,_,rfl⟩:=aO9 hl;rfl) | (obtain⟨_,_,_,_,rfl⟩:=aUI hl;rfl) | (obtain⟨_,_,_,_,_,rfl⟩:=len5 hl;rfl))
  all_goals try decide
  all_goals try (as_aux_lemma=>k_is)
  all_goals try decide
