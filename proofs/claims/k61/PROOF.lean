import PyProof.Rows.All
import Wide.All
import OpenK.AllK
import Wide.FinOn
import KE.KLam
import Lean
import PyProof.EqAt
import PyProof.EqKinds
import PyProof.TupleCall
import PySem.Challenge.RW_fivefields_k61_books_hold
local macro_rules
  | `(tactic| omega) => `(tactic| lia)
set_option maxHeartbeats 4000000
set_option compiler.extract_closed false
namespace Hd
open PySem PySem.W PySem.Calls PyProof.Rows
section
set_option maxHeartbeats 0
set_option maxRecDepth 100000
set_option linter.all false
theorem ws:OpenLaw.wellSaid PySem.Challenge.rw_fivefields_k61_books_hold=true:=by
 delta OpenLaw.wellSaid
 with_reducible refine look_both (look_both (look_both (look_both (look_both (look_both (look_both (look_both (look_both (look_both (look_both (look_both (look_both (look_both (look_both (look_both (look_both (look_both ?_ ?_) ?_) ?_) ?_) ?_) ?_) ?_) ?_) ?_) ?_) ?_) ?_) ?_) ?_) ?_) ?_) ?_) ?_
 ·delta OpenRow.wellSaid
  with_reducible refine look_both (look_both ?_ ?_) ?_
  ·delta OpenRow.partSaid
   with_reducible refine look_both (look_both (look_both (look_both (look_both (look_both (look_both (look_both (look_both (look_both (look_both (look_both ?_ ?_) ?_) ?_) ?_) ?_) ?_) ?_) ?_) ?_) ?_) ?_) ?_
   ·delta looksOpen
    with_reducible refine look_both (look_both (look_both (look_both (look_both ?_ ?_) ?_) ?_) ?_) ?_
    all_goals decide +kernel
   all_goals decide +kernel
  all_goals decide +kernel
 all_goals decide +kernel
noncomputable section
noncomputable abbrev pw:Program:=PySem.Challenge.pw_fivefields_k61_books_hold
noncomputable abbrev bi:List Stmt:=behindTheImports pw
noncomputable def nth:List Stmt->Nat->Stmt
 |s::_,0=>s
 |_::r,n+1=>nth r n
 |[],_=>.Pass default
noncomputable def tp(i:Nat):Stmt:=nth pw.main.body i
noncomputable def bd:Stmt->List Stmt
 |.FunctionDef _ _ b _ _ _ _ _ _ _=>b
 |.ClassDef _ _ _ b _ _ _ _ _ _ _=>b
 |_=>[]
noncomputable def ag:Stmt->Arguments
 |.FunctionDef _ a _ _ _ _ _ _ _ _=>a
 |_=>⟨[],[],none,[],[],none,[]⟩
noncomputable def sc:Stmt->Scope
 |.FunctionDef _ _ _ _ _ _ s _ _ _=>s
 |.ClassDef _ _ _ _ _ _ s _ _ _ _=>s
 |_=>pw.main.scope
noncomputable def r(a:Addr):Value:=.ref a
noncomputable def i(n:Int):Value:=.int n 0
noncomputable def de(P:Params)(k:Str)(t:Tok)(v:Value):DictEntry:=⟨PyData.keyHash P k,.str k t,v⟩
noncomputable def tu(l:List Value):Obj:=⟨.type "tuple",none,.seq l.toArray 0,#[]⟩
noncomputable def di(l:List DictEntry)(n:Nat):Obj:=⟨.type "dict",none,.dict l.toArray n,#[]⟩
noncomputable def co(l:List Value):Obj:=⟨.type "code",none,.fields l.toArray,#[]⟩
noncomputable def fd(l:List Value):Obj:=⟨.none,none,.fields l.toArray,#[]⟩
noncomputable def lf(x:Obj):BT:=.node x .nil .nil
noncomputable abbrev nd:Obj->BT->BT->BT:=BT.node
noncomputable def sf(t:Tok):Value:=.str "/claim/cut.py" t
noncomputable def fz(n q:Str)(s:Stmt):Obj:=⟨.none,none,.func ⟨n,q,ag s,.stmts (bd s),sc s,0,[],.none,.none,.none,.none,none,.none,.none,0⟩,#[]⟩
noncomputable def fn(n q:Str)(s:Stmt)(g:Addr)(c:List (Str×Addr))(d k o m:Value)(a:Option Addr)(x y:Value)(b:Addr):Obj:=⟨.type "function",none,.func ⟨n,q,ag s,.stmts (bd s),sc s,g,c,d,k,o,m,a,x,y,b⟩,#[]⟩
noncomputable def ib(s:Stmt)(i:Nat):Stmt:=nth (bd s) i
noncomputable def ev:Env:={scope:=pw.main.scope,locals:=mainNs,globals:=mainNs,cells:=[],code:=(r 13),frame:=some 14}
noncomputable def cd:Code:=.body bi ev
noncomputable abbrev an:Option Value:=(some (r 6))
noncomputable abbrev bk:List Frame:=[topFrame ⟨0,0,0,0⟩]
def cO(n q:Str)(t l c x a u:Nat):Obj:=co [.str n t,.str q (t+1),sf (t+2),i (Int.ofNat l),i (Int.ofNat c),i 0,i 0,i (Int.ofNat x),r a,.bool true,i 181,r (a+1),.none,r (a+2),r (a+3),r (a+4),i (Int.ofNat u),i (Int.ofNat l),sf (u+1)]
def cP(n:Str)(t l c x a u:Nat):Obj:=cO n n t l c x a u
def cK(n q:Str)(t l a u:Nat):Obj:=co [.str n t,.str q (t+1),sf (t+2),i (Int.ofNat l),i 0,i 0,i 0,i 0,r a,.bool false,i 181,r (a+1),.none,.none,.none,.none,i (Int.ofNat u),i (Int.ofNat l),sf (u+1)]
def fQ(n q:Str)(s:Stmt)(m:Value)(a:Addr):Obj:=fn n q s 3 [] .none .none .none m none (r a) .none 0
def fP(n:Str)(k:Nat)(m:Value)(a:Addr):Obj:=fQ n n (tp k) m a
def fY(n:Str)(k:Nat):Obj:=fz n n (tp k)
def fS(n q:Str)(s z:Stmt)(m:Value)(a:Addr):Obj:=⟨(.type "function"),none,(.func ⟨n,q,ag s,.stmts (bd s),sc z,3,[],.none,.none,.none,m,none,r a,.none,0⟩),#[]⟩
def fT(n q:Str)(s z:Stmt):Obj:=⟨.none,none,(.func ⟨n,q,ag s,.stmts (bd s),sc z,0,[],.none,.none,.none,.none,none,.none,.none,0⟩),#[]⟩
def ss:List Str->Nat->List Value
 |[],_=>[]
 |x::l,n=>.str x n::ss l (n+1)
def tS(n:Nat)(l:List Str):Obj:=tu (ss l n)
def dr(P:Params)(k:Str)(t:Tok)(a:Addr):DictEntry:=de P k t (r a)
def f3(k:Nat):List (Nat×Nat)->List Value
 |[]=>[]
 |(a,b)::l=>i (Int.ofNat a)::i (Int.ofNat k)::r b::f3 k l
def fD(k:Nat)(l:List (Nat×Nat)):Obj:=fd (f3 k l)
def fr(a b:Addr)(m:Value):Obj:=⟨(.type "frame"),none,.plain,#[some (r a),some (r 3),some (r b),none,some m,none,some (r 0)]⟩
def bm(s:String)(v:Value):Obj:=⟨(.type "builtin_function_or_method"),none,(.fields #[.builtin s,v]),#[]⟩
def FD(l:List Obj):List Obj×List Obj:=List.rec ([],[]) (fun x _ p=>(x::p.2,p.1)) l
def oC:Nat->List Obj->BT
 |0,_=>.nil
 |_+1,[]=>.nil
 |n+1,x::l=>.node x (oC n (FD l).1) (oC n (FD l).2)
def su(a b c:Addr):Obj:=⟨(.type "super"),none,(.fields #[r a,r b,r c]),#[]⟩
def fJ:Value:=.str "fivefields.marks" 607
def jj:Value:=.str "fivefields.errors" 194
def k8:Value:=.str "fivefields.days" 305
def qc:Value:=.str "fivefields.months" 426
def mV:Value:=.str "fivefields.ranges" 469
def md:Value:=.str "fivefields.fields" 521
def iS:Value:=.str "law_fivefields_k61_books_hold" 1674
def jc:Value:=.str "fivefields.rows" 1050
def fO:Value:=.str "fivefields.books" 1226
def rH:Value:=.str "fivefields.papers" 1574
def oY:Value:=.str "fivefields.leaps" 1619
def o0:=tu []
def o1:=fd []
def o2:=cK "<module>" "<module>" 182 1 11 185
def o3:Obj:=⟨(.type "frame"),none,.plain,#[(some (r 13)),(some (r 3)),(some (r 3)),none,(some (.str "__main__" 164)),none,(some (r 0))]⟩
def hA(P:Params):Heap:=⟨⟨[(boot_o_0 P),(boot_o_1 P),(boot_o_2 P),(boot_o_3 P),(boot_o_4 P),(boot_o_5 P),(boot_o_6 P),(boot_o_7 P),(boot_o_8 P),(boot_o_9 P),(boot_o_10 P),o0,o1,o2,o3]⟩,⟨[],[],[],0,[],[],false,#[],[],0,false,false,false,0,[2000,10,10],false,0,true,[],[],0,false⟩⟩
def sA(w:World)(os:OsState):Shared:=⟨hA w.params,#[],⟨0,0,0,0⟩,187,os⟩
theorem pre(w:World)(os:OsState):
  topGo treeTable pw w 11 an 12 ⟨boot_heap w.params,⟨[]⟩,boot_drawn,boot_toks,os⟩ (topStub pw) =
  some (sA w os,⟨denote treeTable cd,cd,⟨0,0,0,0⟩,bk⟩):=by kernel_rfl
def t0(P:Params):BT:=oC 5 [(boot_o_0 P),(boot_o_1 P),(boot_o_2 P),(boot_o_3 P),(boot_o_4 P),(boot_o_5 P),(boot_o_6 P),(boot_o_7 P),(boot_o_8 P),(boot_o_9 P),(boot_o_10 P),o0,o1,o2,o3]
def s0(w:World)(os:OsState):SharedT:=⟨t0 w.params,15,⟨[],[],[],0,[],[],false,#[],[],0,false,false,false,0,[2000,10,10],false,0,true,[],[],0,false⟩,#[],⟨0,0,0,0⟩,187,os⟩
theorem Wg(w:World)(os:OsState):
  segRun treeTable pw w 11 an 1 1 (sA w os) (blockOf bi ev cd ⟨0,0,0,0⟩ bk) =
  some (.next,(s0 w os).abs,cd,⟨0,0,0,0⟩):=by kernel_rfl
def KE(P:Params):List DictEntry:=[de P "__doc__" 166 .none,de P "__package__" 167 .none,de P "__loader__" 168 (.builtin "__main__.__loader__#opaque"),de P "__spec__" 169 .none,dr P "__annotations__" 170 6,dr P "__builtins__" 171 4,de P "__file__" 173 (sf 172),de P "__cached__" 174 .none,dr P "_wall" 193 21,dr P "FieldError" 213 31,dr P "NoDay" 229 44,dr P "NoField" 254 63,dr P "NoRow" 279 82,dr P "NoBook" 295 94,dr P "is_whole" 304 103,dr P "MONTH_LASTS" 319 104,de P "ROUND_YEARS" 321 (.int 400 320),de P "ROUND_DAYS" 323 (.int 146097 322),dr P "is_long" 330 111,dr P "multiples_before" 338 118,dr P "days_before" 346 125,dr P "last_of" 354 132,dr P "is_date" 363 139,dr P "day_of" 369 144,dr P "year_of" 377 151,dr P "date_of" 387 158,dr P "weekday" 394 165,de P "FIGURES" 398 (.str "0123456789" 397),dr P "all_figures" 404 170,dr P "is_written" 411 177,de P "DAY_MINUTES" 415 (.int 1440 414),de P "HOUR_MINUTES" 417 (.int 60 416),dr P "parted" 425 184,de P "LONG_PLACE" 429 (.int 12 428),de P "LONG_LAST" 431 (.int 29 430),de P "SHORT_YEAR" 433 (.int 1 432),dr P "kind_from" 443 191,dr P "kind_of" 451 198,dr P "month_at" 460 205,dr P "next_month" 468 212,dr P "has" 478 219,dr P "lowest" 485 226,dr P "starts_of" 491 231,dr P "end_from" 500 238,dr P "ranges_of" 506 243,dr P "shown_range" 514 250,dr P "shown_ranges" 520 255,de P "MOST_SIGNS" 524 (.int 300 523),de P "MOST_ITEMS" 526 (.int 40 525),de P "MOST_STRIDE" 528 (.int 99 527),dr P "mask_of" 537 262,dr P "numbers_in" 543 267,dr P "run_mask" 552 274,dr P "read_number" 562 281,dr P "read_run" 568 286,dr P "read_strided" 581 293,dr P "read_item" 592 300,dr P "read_field" 606 307,de P "MOST_MARKS" 610 (.int 20 609),de P "MOST_DAY" 612 (.int 31 611),de P "MOST_BACK" 614 (.int 30 613),de P "MOST_NTH" 616 (.int 5 615),de P "SUNDAY" 618 (.int 0 617),de P "SATURDAY" 620 (.int 6 619),de P "SUNDAY_TOO" 622 (.int 7 621),de P "ALL_WEEKDAYS" 624 (.int 127 623),dr P "weekday_at" 632 314,dr P "all_days" 639 321,dr P "nearest_work" 649 328,dr P "first_one" 657 335,dr P "Mark" 693 359,dr P "Numbers" 734 394,dr P "Last" 776 428,dr P "Near" 817 461,dr P "LastWork" 849 487,dr P "Weekdays" 892 520,dr P "Nth" 936 553,dr P "LastOne" 977 586,dr P "any_days" 988 595,dr P "read_day_mark" 997 602,dr P "read_weekday" 1005 609,dr P "read_weekday_mark" 1015 616]
def o4(P:Params):=di (de P "__name__" 165 fJ::KE P) 83
def o5:=fD 0 [(1,20),(5,27),(7,40),(9,52),(13,71),(17,90),(20,102),(26,110),(28,117),(30,124),(33,131),(37,138),(41,143),(46,150),(51,157),(59,164),(63,169),(65,176),(70,183),(77,190),(80,197),(82,204),(88,211),(93,218),(95,225),(97,230),(100,237),(105,242),(107,249),(111,254),(117,261),(122,266),(124,273),(126,280),(133,285),(140,292),(147,299),(155,306),(177,313),(179,320),(181,327),(188,334),(190,341),(197,369),(207,402),(221,436),(233,469),(240,495),(253,528),(267,561),(277,594),(282,601),(294,608),(297,615)]
def o6:=tS 190 ["k"]
def o7:=fY "_wall" 0
def o8:=cP "_wall" 187 1 1 3 15 191
def o9:=fn "_wall" "_wall" (tp 0) 3 [] .none .none .none (.str "__main__" 164) none (r 20) .none 0
def MC:=tu [(.type "ValueError")]
def iM:=bm "type.__prepare__" (.type "type")
def Qi(P:Params):=di [de P "__module__" 203 jj,de P "__qualname__" 205 (.str "FieldError" 204),de P "__firstlineno__" 207 (.int 5 206),dr P "__static_attributes__" 208 29] 4
def LN:=cK "FieldError" "FieldError" 198 5 25 201
def o14:=fr 27 24 jj
def Vt(P:Params):=di [de P "__module__" 203 jj,de P "__firstlineno__" 207 (.int 5 206),dr P "__static_attributes__" 208 29,dr P "__weakref__" 210 32,de P "__doc__" 211 .none] 3
def Lw:Obj:=⟨(.type "type"),none,(.cls ⟨"FieldError",[(.type "ValueError")],[(r 31),(.type "ValueError"),(.type "Exception"),(.type "BaseException"),(.type "object")],30,"FieldError",true,[],[(r 44),(r 63),(r 82),(r 94)],false,none,false⟩),#[(some (r 22)),none,(some (.str "FieldError" 196)),(some (.str "FieldError" 204)),(some (.builtin "ValueError.__new__")),(some (.bool true))]⟩
def S4:Obj:=⟨(.type "getset_descriptor"),none,(.fields #[(.str "__weakref__" 209),(r 31),(.builtin "ExceptionGroup.__weakref__"),.none]),#[]⟩
def Tw:=su 31 31 31
def Qp:=bm "object.__init_subclass__" (r 31)
def p9:=tu [(r 31)]
def K0(P:Params):=di [de P "__module__" 221 jj,de P "__qualname__" 223 (.str "NoDay" 222),de P "__firstlineno__" 225 (.int 7 224),dr P "__static_attributes__" 226 42] 4
def Qm:=cK "NoDay" "NoDay" 216 7 38 219
def Yu:=fr 40 37 jj
def Qu(P:Params):=di [de P "__module__" 221 jj,de P "__firstlineno__" 225 (.int 7 224),dr P "__static_attributes__" 226 42,de P "__doc__" 227 .none] 2
def Yp:Obj:=⟨(.type "type"),none,(.cls ⟨"NoDay",[(r 31)],[(r 44),(r 31),(.type "ValueError"),(.type "Exception"),(.type "BaseException"),(.type "object")],43,"NoDay",true,[],[],false,none,false⟩),#[(some (r 35)),none,(some (.str "NoDay" 214)),(some (.str "NoDay" 222)),(some (.builtin "ValueError.__new__")),(some (.bool true))]⟩
def Lc:=su 44 44 44
def QQ:=bm "object.__init_subclass__" (r 44)
def K4(P:Params):=di [de P "__module__" 237 jj,de P "__qualname__" 239 (.str "NoField" 238),de P "__firstlineno__" 241 (.int 9 240),dr P "__init__" 249 60,dr P "__static_attributes__" 251 61] 5
def OC:=fD 4 [(11,59)]
def RK:=cK "NoField" "NoField" 232 9 50 235
def Tn:=fr 52 49 jj
def LY:=tS 245 ["self","at"]
def Qy:=fz "__init__" "NoField.__init__" (ib (tp 4) 0)
def o34:=cO "__init__" "NoField.__init__" 242 11 2 3 54 247
def o35:=fQ "__init__" "NoField.__init__" (ib (tp 4) 0) jj 59
def My:=tS 250 ["at"]
def o37(P:Params):=di [de P "__module__" 237 jj,de P "__firstlineno__" 241 (.int 9 240),dr P "__init__" 249 60,dr P "__static_attributes__" 251 61,de P "__doc__" 252 .none] 2
def Ys:Obj:=⟨(.type "type"),none,(.cls ⟨"NoField",[(r 31)],[(r 63),(r 31),(.type "ValueError"),(.type "Exception"),(.type "BaseException"),(.type "object")],62,"NoField",true,[],[],false,none,false⟩),#[(some (r 47)),none,(some (.str "NoField" 230)),(some (.str "NoField" 238)),(some (.builtin "ValueError.__new__")),(some (.bool true))]⟩
def M3:=su 63 63 63
def SR:=bm "object.__init_subclass__" (r 63)
def o41(P:Params):=di [de P "__module__" 262 jj,de P "__qualname__" 264 (.str "NoRow" 263),de P "__firstlineno__" 266 (.int 13 265),dr P "__init__" 274 79,dr P "__static_attributes__" 276 80] 5
def UV:=fD 4 [(15,78)]
def Sn:=cK "NoRow" "NoRow" 257 13 69 260
def ZX:=fr 71 68 jj
def o45:=tS 270 ["self","place"]
def o46:=fz "__init__" "NoRow.__init__" (ib (tp 5) 0)
def WN:=cO "__init__" "NoRow.__init__" 267 15 2 3 73 272
def o48:=fQ "__init__" "NoRow.__init__" (ib (tp 5) 0) jj 78
def Vh:=tS 275 ["place"]
def PQ(P:Params):=di [de P "__module__" 262 jj,de P "__firstlineno__" 266 (.int 13 265),dr P "__init__" 274 79,dr P "__static_attributes__" 276 80,de P "__doc__" 277 .none] 2
def RS:Obj:=⟨(.type "type"),none,(.cls ⟨"NoRow",[(r 31)],[(r 82),(r 31),(.type "ValueError"),(.type "Exception"),(.type "BaseException"),(.type "object")],81,"NoRow",true,[],[],false,none,false⟩),#[(some (r 66)),none,(some (.str "NoRow" 255)),(some (.str "NoRow" 263)),(some (.builtin "ValueError.__new__")),(some (.bool true))]⟩
def YY:=su 82 82 82
def Qk:=bm "object.__init_subclass__" (r 82)
def NK(P:Params):=di [de P "__module__" 287 jj,de P "__qualname__" 289 (.str "NoBook" 288),de P "__firstlineno__" 291 (.int 17 290),dr P "__static_attributes__" 292 92] 4
def RG:=cK "NoBook" "NoBook" 282 17 88 285
def o56:=fr 90 87 jj
def LZ(P:Params):=di [de P "__module__" 287 jj,de P "__firstlineno__" 291 (.int 17 290),dr P "__static_attributes__" 292 92,de P "__doc__" 293 .none] 2
def Ml:Obj:=⟨(.type "type"),none,(.cls ⟨"NoBook",[(r 31)],[(r 94),(r 31),(.type "ValueError"),(.type "Exception"),(.type "BaseException"),(.type "object")],93,"NoBook",true,[],[],false,none,false⟩),#[(some (r 85)),none,(some (.str "NoBook" 280)),(some (.str "NoBook" 288)),(some (.builtin "ValueError.__new__")),(some (.bool true))]⟩
def YX:=su 94 94 94
def SZ:=bm "object.__init_subclass__" (r 94)
def SQ:=tS 301 ["thing"]
def RX:=fY "is_whole" 8
def LA:=cP "is_whole" 298 20 1 3 97 302
def Zd:=fn "is_whole" "is_whole" (tp 8) 3 [] .none .none .none (.str "fivefields.wholes" 296) none (r 102) .none 0
def T6:=tu [(.int 31 307),(.int 28 308),(.int 31 309),(.int 30 310),(.int 31 311),(.int 30 312),(.int 31 313),(.int 31 314),(.int 30 315),(.int 31 316),(.int 30 317),(.int 31 318)]
def Vy:=tS 327 ["year"]
def XI:=fY "is_long" 13
def MR:=cP "is_long" 324 26 1 3 105 328
def Zw:=fP "is_long" 13 k8 110
def Ov:=tS 334 ["year","step"]
def LI:=fY "multiples_before" 14
def VW:=cP "multiples_before" 331 28 2 3 112 336
def WP:=fP "multiples_before" 14 k8 117
def VT:=tS 342 ["year","longs"]
def WW:=fY "days_before" 15
def Wh:=cP "days_before" 339 30 1 3 119 344
def ZM:=fP "days_before" 15 k8 124
def o78:=tS 350 ["year","month"]
def Oj:=fY "last_of" 16
def VS:=cP "last_of" 347 33 2 3 126 352
def Yv:=fP "last_of" 16 k8 131
def Zu:=tS 358 ["year","month","day"]
def NM:=fY "is_date" 17
def VH:=cP "is_date" 355 37 3 3 133 361
def o85:=fP "is_date" 17 k8 138
def YM:=fY "day_of" 18
def L7:=co [(.str "day_of" 364),(.str "day_of" 365),(sf 366),(i 41),(i 3),(i 0),(i 0),(i 3),(r 140),(.bool true),(i 181),(r 141),.none,.none,.none,(r 142),(i 367),(i 41),(sf 368)]
def V2:=fP "day_of" 18 k8 143
def Wn:=tS 373 ["day","year"]
def o90:=fY "year_of" 19
def R3:=cP "year_of" 370 46 1 3 145 375
def o92:=fP "year_of" 19 k8 150
def Xh:=tS 381 ["day","year","month","rest"]
def Vp:=fY "date_of" 20
def o95:=cP "date_of" 378 51 1 3 152 385
def L6:=fP "date_of" 20 k8 157
def o97:=tS 391 ["day"]
def RL:=fY "weekday" 21
def o99:=cP "weekday" 388 59 1 3 159 392
def NQ:=fP "weekday" 21 k8 164
def aPR:=fY "all_figures" 24
def Vm:=co [(.str "all_figures" 399),(.str "all_figures" 400),(sf 401),(i 63),(i 1),(i 0),(i 0),(i 3),(r 166),(.bool true),(i 181),(r 167),.none,.none,.none,(r 168),(i 402),(i 63),(sf 403)]
def aR8:=fn "all_figures" "all_figures" (tp 24) 3 [] .none .none .none (.str "fivefields.figures" 395) none (r 169) .none 0
def W7:=tS 408 ["text"]
def XO:=fY "is_written" 25
def LX:=cP "is_written" 405 65 1 3 171 409
def Nq:=fn "is_written" "is_written" (tp 25) 3 [] .none .none .none (.str "fivefields.figures" 395) none (r 176) .none 0
def N4:=tS 421 ["moment","time"]
def Mp:=fY "parted" 29
def Ms:=cP "parted" 418 70 1 3 178 423
def aL5:=fn "parted" "parted" (tp 29) 3 [] .none .none .none (.str "fivefields.moments" 412) none (r 183) .none 0
def Yb:=tS 437 ["year","month","day","place"]
def Ya:=fY "kind_from" 34
def Vx:=cP "kind_from" 434 77 3 3 185 441
def O2:=fP "kind_from" 34 qc 190
def ZA:=tS 447 ["year","month"]
def Nu:=fY "kind_of" 35
def aS0:=cP "kind_of" 444 80 2 3 192 449
def QU:=fP "kind_of" 35 qc 197
def WS:=tS 455 ["kind","place","first"]
def R4:=fY "month_at" 36
def L1:=cP "month_at" 452 82 1 3 199 458
def aPN:=fP "month_at" 36 qc 204
def RN:=tS 464 ["year","month"]
def Yg:=fY "next_month" 37
def Yi:=cP "next_month" 461 88 2 3 206 466
def YL:=fP "next_month" 37 qc 211
def Yx:=tS 474 ["mask","number"]
def On:=fY "has" 39
def R9:=cP "has" 471 93 2 3 213 476
def Sd:=fP "has" 39 mV 218
def Sg:=tS 482 ["mask"]
def OL:=fY "lowest" 40
def ZN:=cP "lowest" 479 95 1 3 220 483
def VF:=fP "lowest" 40 mV 225
def aLR:=fY "starts_of" 41
def Sm:=co [(.str "starts_of" 486),(.str "starts_of" 487),(sf 488),(i 97),(i 1),(i 0),(i 0),(i 3),(r 227),(.bool true),(i 181),(r 228),.none,.none,.none,(r 229),(i 489),(i 97),(sf 490)]
def Ly:=fP "starts_of" 41 mV 230
def YD:=tS 495 ["mask","start","end"]
def Mm:=fY "end_from" 42
def Wz:=cP "end_from" 492 100 2 3 232 498
def Zb:=fP "end_from" 42 mV 237
def aLS:=fY "ranges_of" 43
def Rw:=co [(.str "ranges_of" 501),(.str "ranges_of" 502),(sf 503),(i 105),(i 1),(i 0),(i 0),(i 3),(r 239),(.bool true),(i 181),(r 240),.none,.none,.none,(r 241),(i 504),(i 105),(sf 505)]
def NI:=fP "ranges_of" 43 mV 242
def Wp:=tS 510 ["first","last"]
def NH:=fY "shown_range" 44
def PX:=cP "shown_range" 507 107 2 3 244 512
def Nw:=fP "shown_range" 44 mV 249
def Yf:=fY "shown_ranges" 45
def aTM:=co [(.str "shown_ranges" 515),(.str "shown_ranges" 516),(sf 517),(i 111),(i 1),(i 0),(i 0),(i 3),(r 251),(.bool true),(i 181),(r 252),.none,.none,.none,(r 253),(i 518),(i 111),(sf 519)]
def X4:=fP "shown_ranges" 45 mV 254
def SS:=tS 532 ["numbers","mask","number"]
def Qd:=fY "mask_of" 50
def SV:=cP "mask_of" 529 117 1 3 256 535
def V1:=fP "mask_of" 50 md 261
def R5:=fY "numbers_in" 51
def aQ2:=co [(.str "numbers_in" 538),(.str "numbers_in" 539),(sf 540),(i 122),(i 1),(i 0),(i 0),(i 3),(r 263),(.bool true),(i 181),(r 264),.none,.none,.none,(r 265),(i 541),(i 122),(sf 542)]
def MD:=fP "numbers_in" 51 md 266
def P6:=tS 547 ["first","last","stride"]
def RW:=fY "run_mask" 52
def Zc:=cP "run_mask" 544 124 3 3 268 550
def VI:=fP "run_mask" 52 md 273
def S5:=tS 556 ["text","low","high","number"]
def L4:=fY "read_number" 53
def Ze:=cP "read_number" 553 126 3 3 275 560
def aSD:=fP "read_number" 53 md 280
def K5:=fY "read_run" 54
def Qs:=co [(.str "read_run" 563),(.str "read_run" 564),(sf 565),(i 133),(i 3),(i 0),(i 0),(i 3),(r 282),(.bool true),(i 181),(r 283),.none,.none,.none,(r 284),(i 566),(i 133),(sf 567)]
def aRK:=fP "read_run" 54 md 285
def Np:=tS 572 ["run_text","stride_text","low","high","run","stride","last"]
def aMI:=fY "read_strided" 55
def W1:=cP "read_strided" 569 140 4 3 287 579
def O3:=fP "read_strided" 55 md 292
def VN:=tS 585 ["item","low","high","parts","run"]
def Oe:=fY "read_item" 56
def Rh:=cP "read_item" 582 147 3 3 294 590
def aNC:=fP "read_item" 56 md 299
def Wq:=tS 596 ["text","low","high","items","mask","place","item","told"]
def Tg:=fY "read_field" 57
def OI:=cP "read_field" 593 155 3 3 301 604
def YW:=fP "read_field" 57 md 306
def aTE:=tS 628 ["day","first"]
def OG:=fY "weekday_at" 67
def O1:=cP "weekday_at" 625 177 2 3 308 630
def TC:=fP "weekday_at" 67 fJ 313
def Rp:=tS 636 ["last"]
def Pf:=fY "all_days" 68
def OQ:=cP "all_days" 633 179 1 3 315 637
def Rj:=fP "all_days" 68 fJ 320
def Mx:=tS 643 ["day","last","first","of_week"]
def aS1:=fY "nearest_work" 69
def Qq:=cP "nearest_work" 640 181 3 3 322 647
def Ts:=fP "nearest_work" 69 fJ 327
def Ox:=tS 653 ["weekday","first"]
def PL:=fY "first_one" 70
def Ou:=cP "first_one" 650 188 2 3 329 655
def Rm:=fP "first_one" 70 fJ 334
def SJ(P:Params):=di [de P "__module__" 665 fJ,de P "__qualname__" 667 (.str "Mark" 666),de P "__firstlineno__" 669 (.int 190 668),dr P "days" 678 349,dr P "told" 685 356,dr P "__static_attributes__" 686 357] 6
def MN:=fD 4 [(192,348),(195,355)]
def aRD:=cK "Mark" "Mark" 660 190 339 663
def QP:=fr 341 338 fJ
def Zr:=tS 673 ["self","last","first"]
def Xr:=fz "days" "Mark.days" (ib (tp 71) 0)
def Z8:=cO "days" "Mark.days" 670 192 3 3 343 676
def RH:=fQ "days" "Mark.days" (ib (tp 71) 0) fJ 348
def aPV:=tS 682 ["self"]
def aT5:=fz "told" "Mark.told" (ib (tp 71) 1)
def Pk:=cO "told" "Mark.told" 679 195 1 3 350 683
def Pg:=fQ "told" "Mark.told" (ib (tp 71) 1) fJ 355
def aKA(P:Params):=di [de P "__module__" 665 fJ,de P "__firstlineno__" 669 (.int 190 668),dr P "days" 678 349,dr P "told" 685 356,dr P "__static_attributes__" 686 357,dr P "__dict__" 688 360,dr P "__weakref__" 690 361,de P "__doc__" 691 .none] 4
def VQ:Obj:=⟨(.type "type"),none,(.cls ⟨"Mark",[(.type "object")],[(r 359),(.type "object")],358,"Mark",true,[],[(r 394),(r 428),(r 461),(r 487),(r 520),(r 553),(r 586)],false,none,false⟩),#[none,none,(some (.str "Mark" 658)),(some (.str "Mark" 666)),(some (.builtin "object.__new__")),(some (.bool true))]⟩
def MG:Obj:=⟨(.type "getset_descriptor"),none,(.fields #[(.str "__dict__" 687),(r 359),(.builtin "function.__dict__"),(.builtin "function.__dict__#set")]),#[]⟩
def Ph:Obj:=⟨(.type "getset_descriptor"),none,(.fields #[(.str "__weakref__" 689),(r 359),(.builtin "ExceptionGroup.__weakref__"),.none]),#[]⟩
def X1:=su 359 359 359
def XF:=bm "object.__init_subclass__" (r 359)
def mJ:=tu [(r 359)]
def KW(P:Params):=di [de P "__module__" 701 fJ,de P "__qualname__" 703 (.str "Numbers" 702),de P "__firstlineno__" 705 (.int 197 704),dr P "__init__" 713 377,dr P "days" 722 384,dr P "told" 729 391,dr P "__static_attributes__" 731 392] 7
def KY:=fD 4 [(199,376),(202,383),(205,390)]
def X2:=cK "Numbers" "Numbers" 696 197 367 699
def Qo:=fr 369 366 fJ
def aQE:=tS 709 ["self","mask"]
def Wc:=fz "__init__" "Numbers.__init__" (ib (tp 72) 0)
def OB:=cO "__init__" "Numbers.__init__" 706 199 2 3 371 711
def Tc:=fQ "__init__" "Numbers.__init__" (ib (tp 72) 0) fJ 376
def Nj:=tS 717 ["self","last","first"]
def PM:=fz "days" "Numbers.days" (ib (tp 72) 1)
def SC:=cO "days" "Numbers.days" 714 202 3 3 378 720
def TF:=fQ "days" "Numbers.days" (ib (tp 72) 1) fJ 383
def Yl:=tS 726 ["self"]
def Yo:=fz "told" "Numbers.told" (ib (tp 72) 2)
def Px:=cO "told" "Numbers.told" 723 205 1 3 385 727
def O6:=fQ "told" "Numbers.told" (ib (tp 72) 2) fJ 390
def aNI:=tS 730 ["mask"]
def Yh(P:Params):=di [de P "__module__" 701 fJ,de P "__firstlineno__" 705 (.int 197 704),dr P "__init__" 713 377,dr P "days" 722 384,dr P "told" 729 391,dr P "__static_attributes__" 731 392,de P "__doc__" 732 .none] 2
def QM:Obj:=⟨(.type "type"),none,(.cls ⟨"Numbers",[(r 359)],[(r 394),(r 359),(.type "object")],393,"Numbers",true,[],[],false,none,false⟩),#[(some (r 364)),none,(some (.str "Numbers" 694)),(some (.str "Numbers" 702)),(some (.builtin "object.__new__")),(some (.bool true))]⟩
def ZD:=su 394 394 394
def Tu:=bm "object.__init_subclass__" (r 394)
def Me(P:Params):=di [de P "__module__" 742 fJ,de P "__qualname__" 744 (.str "Last" 743),de P "__firstlineno__" 746 (.int 207 745),dr P "__init__" 755 411,dr P "days" 764 418,dr P "told" 771 425,dr P "__static_attributes__" 773 426] 7
def P7:=fD 4 [(209,410),(212,417),(217,424)]
def LW:=cK "Last" "Last" 737 207 400 740
def Q6:=fr 402 399 fJ
def OH:=tu [(.int 0 747)]
def Nh:=tS 751 ["self","back"]
def Qa:=fz "__init__" "Last.__init__" (ib (tp 73) 0)
def WO:=cO "__init__" "Last.__init__" 748 209 2 3 405 753
def aOB:=fn "__init__" "Last.__init__" (ib (tp 73) 0) 3 [] (r 404) .none .none fJ none (r 410) .none 0
def Wy:=tS 759 ["self","last","first"]
def Ti:=fT "days" "Last.days" (ib (tp 73) 1) (ib (tp 71) 0)
def aMT:=cO "days" "Last.days" 756 212 3 3 412 762
def QW:=fS "days" "Last.days" (ib (tp 73) 1) (ib (tp 71) 0) fJ 417
def QB:=tS 768 ["self"]
def Lv:=fz "told" "Last.told" (ib (tp 73) 2)
def Wv:=cO "told" "Last.told" 765 217 1 3 419 769
def Zn:=fQ "told" "Last.told" (ib (tp 73) 2) fJ 424
def UT:=tS 772 ["back"]
def Mt(P:Params):=di [de P "__module__" 742 fJ,de P "__firstlineno__" 746 (.int 207 745),dr P "__init__" 755 411,dr P "days" 764 418,dr P "told" 771 425,dr P "__static_attributes__" 773 426,de P "__doc__" 774 .none] 2
def SW:Obj:=⟨(.type "type"),none,(.cls ⟨"Last",[(r 359)],[(r 428),(r 359),(.type "object")],427,"Last",true,[],[],false,none,false⟩),#[(some (r 397)),none,(some (.str "Last" 735)),(some (.str "Last" 743)),(some (.builtin "object.__new__")),(some (.bool true))]⟩
def aRN:=su 428 428 428
def aM3:=bm "object.__init_subclass__" (r 428)
def aKV(P:Params):=di [de P "__module__" 784 fJ,de P "__qualname__" 786 (.str "Near" 785),de P "__firstlineno__" 788 (.int 221 787),dr P "__init__" 796 444,dr P "days" 805 451,dr P "told" 812 458,dr P "__static_attributes__" 814 459] 7
def OO:=fD 4 [(223,443),(226,450),(231,457)]
def XY:=cK "Near" "Near" 779 221 434 782
def Zl:=fr 436 433 fJ
def aLF:=tS 792 ["self","day"]
def QH:=fz "__init__" "Near.__init__" (ib (tp 74) 0)
def aNA:=cO "__init__" "Near.__init__" 789 223 2 3 438 794
def aNV:=fQ "__init__" "Near.__init__" (ib (tp 74) 0) fJ 443
def Qc:=tS 800 ["self","last","first"]
def RI:=fz "days" "Near.days" (ib (tp 74) 1)
def Lh:=cO "days" "Near.days" 797 226 3 3 445 803
def aLL:=fQ "days" "Near.days" (ib (tp 74) 1) fJ 450
def ON:=tS 809 ["self"]
def TZ:=fT "told" "Near.told" (ib (tp 74) 2) (ib (tp 73) 2)
def Wd:=cO "told" "Near.told" 806 231 1 3 452 810
def Oc:=fS "told" "Near.told" (ib (tp 74) 2) (ib (tp 73) 2) fJ 457
def Q9:=tS 813 ["day"]
def aKR(P:Params):=di [de P "__module__" 784 fJ,de P "__firstlineno__" 788 (.int 221 787),dr P "__init__" 796 444,dr P "days" 805 451,dr P "told" 812 458,dr P "__static_attributes__" 814 459,de P "__doc__" 815 .none] 2
def WB:Obj:=⟨(.type "type"),none,(.cls ⟨"Near",[(r 359)],[(r 461),(r 359),(.type "object")],460,"Near",true,[],[],false,none,false⟩),#[(some (r 431)),none,(some (.str "Near" 777)),(some (.str "Near" 785)),(some (.builtin "object.__new__")),(some (.bool true))]⟩
def aQW:=su 461 461 461
def LR:=bm "object.__init_subclass__" (r 461)
def Nm(P:Params):=di [de P "__module__" 825 fJ,de P "__qualname__" 827 (.str "LastWork" 826),de P "__firstlineno__" 829 (.int 233 828),dr P "days" 838 477,dr P "told" 845 484,dr P "__static_attributes__" 846 485] 6
def OX:=fD 4 [(235,476),(238,483)]
def Yd:=cK "LastWork" "LastWork" 820 233 467 823
def N7:=fr 469 466 fJ
def Od:=tS 833 ["self","last","first"]
def MO:=fT "days" "LastWork.days" (ib (tp 75) 0) (ib (tp 74) 1)
def WZ:=cO "days" "LastWork.days" 830 235 3 3 471 836
def Qn:=fS "days" "LastWork.days" (ib (tp 75) 0) (ib (tp 74) 1) fJ 476
def M8:=tS 842 ["self"]
def NV:=fT "told" "LastWork.told" (ib (tp 75) 1) (ib (tp 71) 1)
def Qx:=cO "told" "LastWork.told" 839 238 1 3 478 843
def aSR:=fS "told" "LastWork.told" (ib (tp 75) 1) (ib (tp 71) 1) fJ 483
def XM(P:Params):=di [de P "__module__" 825 fJ,de P "__firstlineno__" 829 (.int 233 828),dr P "days" 838 477,dr P "told" 845 484,dr P "__static_attributes__" 846 485,de P "__doc__" 847 .none] 2
def M9:Obj:=⟨(.type "type"),none,(.cls ⟨"LastWork",[(r 359)],[(r 487),(r 359),(.type "object")],486,"LastWork",true,[],[],false,none,false⟩),#[(some (r 464)),none,(some (.str "LastWork" 818)),(some (.str "LastWork" 826)),(some (.builtin "object.__new__")),(some (.bool true))]⟩
def Xe:=su 487 487 487
def aQC:=bm "object.__init_subclass__" (r 487)
def ZH(P:Params):=di [de P "__module__" 857 fJ,de P "__qualname__" 859 (.str "Weekdays" 858),de P "__firstlineno__" 861 (.int 240 860),dr P "__init__" 869 503,dr P "days" 880 510,dr P "told" 887 517,dr P "__static_attributes__" 889 518] 7
def WU:=fD 4 [(242,502),(245,509),(251,516)]
def P8:=cK "Weekdays" "Weekdays" 852 240 493 855
def Qv:=fr 495 492 fJ
def Xx:=tS 865 ["self","mask"]
def Pp:=fT "__init__" "Weekdays.__init__" (ib (tp 76) 0) (ib (tp 72) 0)
def Zs:=cO "__init__" "Weekdays.__init__" 862 242 2 3 497 867
def aSH:=fS "__init__" "Weekdays.__init__" (ib (tp 76) 0) (ib (tp 72) 0) fJ 502
def aJ1:=tS 873 ["self","last","first","weeks","week"]
def MF:=fz "days" "Weekdays.days" (ib (tp 76) 1)
def aME:=cO "days" "Weekdays.days" 870 245 3 3 504 878
def Nf:=fQ "days" "Weekdays.days" (ib (tp 76) 1) fJ 509
def SX:=tS 884 ["self"]
def aR5:=fT "told" "Weekdays.told" (ib (tp 76) 2) (ib (tp 72) 2)
def aSQ:=cO "told" "Weekdays.told" 881 251 1 3 511 885
def Vk:=fS "told" "Weekdays.told" (ib (tp 76) 2) (ib (tp 72) 2) fJ 516
def Wj:=tS 888 ["mask"]
def Ni(P:Params):=di [de P "__module__" 857 fJ,de P "__firstlineno__" 861 (.int 240 860),dr P "__init__" 869 503,dr P "days" 880 510,dr P "told" 887 517,dr P "__static_attributes__" 889 518,de P "__doc__" 890 .none] 2
def aLN:Obj:=⟨(.type "type"),none,(.cls ⟨"Weekdays",[(r 359)],[(r 520),(r 359),(.type "object")],519,"Weekdays",true,[],[],false,none,false⟩),#[(some (r 490)),none,(some (.str "Weekdays" 850)),(some (.str "Weekdays" 858)),(some (.builtin "object.__new__")),(some (.bool true))]⟩
def QD:=su 520 520 520
def LS:=bm "object.__init_subclass__" (r 520)
def WR(P:Params):=di [de P "__module__" 900 fJ,de P "__qualname__" 902 (.str "Nth" 901),de P "__firstlineno__" 904 (.int 253 903),dr P "__init__" 913 536,dr P "days" 923 543,dr P "told" 930 550,dr P "__static_attributes__" 933 551] 7
def ZW:=fD 4 [(255,535),(259,542),(265,549)]
def Lu:=cK "Nth" "Nth" 895 253 526 898
def YA:=fr 528 525 fJ
def Wb:=tS 908 ["self","weekday","many"]
def Nl:=fz "__init__" "Nth.__init__" (ib (tp 77) 0)
def aOG:=cO "__init__" "Nth.__init__" 905 255 3 3 530 911
def aQN:=fQ "__init__" "Nth.__init__" (ib (tp 77) 0) fJ 535
def SB:=tS 917 ["self","last","first","day"]
def Si:=fz "days" "Nth.days" (ib (tp 77) 1)
def XD:=cO "days" "Nth.days" 914 259 3 3 537 921
def N1:=fQ "days" "Nth.days" (ib (tp 77) 1) fJ 542
def YG:=tS 927 ["self"]
def R7:=fT "told" "Nth.told" (ib (tp 77) 2) (ib (tp 73) 2)
def Rg:=cO "told" "Nth.told" 924 265 1 3 544 928
def M5:=fS "told" "Nth.told" (ib (tp 77) 2) (ib (tp 73) 2) fJ 549
def W4:=tS 931 ["many","weekday"]
def Nz(P:Params):=di [de P "__module__" 900 fJ,de P "__firstlineno__" 904 (.int 253 903),dr P "__init__" 913 536,dr P "days" 923 543,dr P "told" 930 550,dr P "__static_attributes__" 933 551,de P "__doc__" 934 .none] 2
def MP:Obj:=⟨(.type "type"),none,(.cls ⟨"Nth",[(r 359)],[(r 553),(r 359),(.type "object")],552,"Nth",true,[],[],false,none,false⟩),#[(some (r 523)),none,(some (.str "Nth" 893)),(some (.str "Nth" 901)),(some (.builtin "object.__new__")),(some (.bool true))]⟩
def LM:=su 553 553 553
def PN:=bm "object.__init_subclass__" (r 553)
def Ve(P:Params):=di [de P "__module__" 944 fJ,de P "__qualname__" 946 (.str "LastOne" 945),de P "__firstlineno__" 948 (.int 267 947),dr P "__init__" 956 569,dr P "days" 965 576,dr P "told" 972 583,dr P "__static_attributes__" 974 584] 7
def Zk:=fD 4 [(269,568),(272,575),(275,582)]
def NL:=cK "LastOne" "LastOne" 939 267 559 942
def Pz:=fr 561 558 fJ
def ZF:=tS 952 ["self","weekday"]
def aPY:=fz "__init__" "LastOne.__init__" (ib (tp 78) 0)
def aRC:=cO "__init__" "LastOne.__init__" 949 269 2 3 563 954
def Vb:=fQ "__init__" "LastOne.__init__" (ib (tp 78) 0) fJ 568
def K3:=tS 960 ["self","last","first"]
def aRA:=fz "days" "LastOne.days" (ib (tp 78) 1)
def QZ:=cO "days" "LastOne.days" 957 272 3 3 570 963
def LG:=fQ "days" "LastOne.days" (ib (tp 78) 1) fJ 575
def NC:=tS 969 ["self"]
def UU:=fT "told" "LastOne.told" (ib (tp 78) 2) (ib (tp 73) 2)
def O4:=cO "told" "LastOne.told" 966 275 1 3 577 970
def RF:=fS "told" "LastOne.told" (ib (tp 78) 2) (ib (tp 73) 2) fJ 582
def aTB:=tS 973 ["weekday"]
def VM(P:Params):=di [de P "__module__" 944 fJ,de P "__firstlineno__" 948 (.int 267 947),dr P "__init__" 956 569,dr P "days" 965 576,dr P "told" 972 583,dr P "__static_attributes__" 974 584,de P "__doc__" 975 .none] 2
def ZS:Obj:=⟨(.type "type"),none,(.cls ⟨"LastOne",[(r 359)],[(r 586),(r 359),(.type "object")],585,"LastOne",true,[],[],false,none,false⟩),#[(some (r 556)),none,(some (.str "LastOne" 937)),(some (.str "LastOne" 945)),(some (.builtin "object.__new__")),(some (.bool true))]⟩
def Zv:=su 586 586 586
def LO:=bm "object.__init_subclass__" (r 586)
def Wf:=tS 981 ["marks","last","first","mask","mark"]
def Tz:=fY "any_days" 79
def TU:=cP "any_days" 978 277 3 3 589 986
def aS8:=fP "any_days" 79 fJ 594
def aS6:=tS 992 ["item","back","day"]
def OZ:=fY "read_day_mark" 80
def L9:=cP "read_day_mark" 989 282 1 3 596 995
def aQ1:=fP "read_day_mark" 80 fJ 601
def XQ:=tS 1001 ["text","number"]
def Sw:=fY "read_weekday" 81
def RD:=cP "read_weekday" 998 294 1 3 603 1003
def aPO:=fP "read_weekday" 81 fJ 608
def Va:=tS 1009 ["item","weekday","parts","many"]
def K7:=fY "read_weekday_mark" 82
def aSM:=cP "read_weekday_mark" 1006 297 1 3 610 1013
def Sj:=fP "read_weekday_mark" 82 fJ 615
def lM(P:Params)(x0 x1:Obj):List Obj:=[(boot_o_0 P),(boot_o_1 P),(boot_o_2 P),x0,(boot_o_4 P),(boot_o_5 P),(boot_o_6 P),(boot_o_7 P),(boot_o_8 P),(boot_o_9 P),(boot_o_10 P),o0,x1,o2,o3,o0,o1,o6,o0,o7,o8,o9,MC,iM,(Qi P),o0,o1,LN,o14,o0,(Vt P),Lw,S4,Tw,Qp,p9,iM,(K0 P),o0,o1,Qm,Yu,o0,(Qu P),Yp,Lc,QQ,p9,iM,(K4 P),o0,OC,RK,Tn,o0,o1,LY,o0,Qy,o34,o35,My,(o37 P),Ys,M3,SR,p9,iM,(o41 P),o0,UV,Sn,ZX,o0,o1,o45,o0,o46,WN,o48,Vh,(PQ P),RS,YY,Qk,p9,iM,(NK P),o0,o1,RG,o56,o0,(LZ P),Ml,YX,SZ,o0,o1,SQ,o0,RX,LA,Zd,T6,o0,o1,Vy,o0,XI,MR,Zw,o0,o1,Ov,o0,LI,VW,WP,o0,o1,VT,o0,WW,Wh,ZM,o0,o1,o78,o0,Oj,VS,Yv,o0,o1,Zu,o0,NM,VH,o85,o0,o1,YM,L7,V2,o0,o1,Wn,o0,o90,R3,o92,o0,o1,Xh,o0,Vp,o95,L6,o0,o1,o97,o0,RL,o99,NQ,o0,o1,aPR,Vm,aR8,o0,o1,W7,o0,XO,LX,Nq,o0,o1,N4,o0,Mp,Ms,aL5,o0,o1,Yb,o0,Ya,Vx,O2,o0,o1,ZA,o0,Nu,aS0,QU,o0,o1,WS,o0,R4,L1,aPN,o0,o1,RN,o0,Yg,Yi,YL,o0,o1,Yx,o0,On,R9,Sd,o0,o1,Sg,o0,OL,ZN,VF,o0,o1,aLR,Sm,Ly,o0,o1,YD,o0,Mm,Wz,Zb,o0,o1,aLS,Rw,NI,o0,o1,Wp,o0,NH,PX,Nw,o0,o1,Yf,aTM,X4,o0,o1,SS,o0,Qd,SV,V1,o0,o1,R5,aQ2,MD,o0,o1,P6,o0,RW,Zc,VI,o0,o1,S5,o0,L4,Ze,aSD,o0,o1,K5,Qs,aRK,o0,o1,Np,o0,aMI,W1,O3,o0,o1,VN,o0,Oe,Rh,aNC,o0,o1,Wq,o0,Tg,OI,YW,o0,o1,aTE,o0,OG,O1,TC,o0,o1,Rp,o0,Pf,OQ,Rj,o0,o1,Mx,o0,aS1,Qq,Ts,o0,o1,Ox,o0,PL,Ou,Rm,o0,iM,(SJ P),o0,MN,aRD,QP,o0,o1,Zr,o0,Xr,Z8,RH,o0,o1,aPV,o0,aT5,Pk,Pg,o0,(aKA P),VQ,MG,Ph,X1,XF,mJ,iM,(KW P),o0,KY,X2,Qo,o0,o1,aQE,o0,Wc,OB,Tc,o0,o1,Nj,o0,PM,SC,TF,o0,o1,Yl,o0,Yo,Px,O6,aNI,(Yh P),QM,ZD,Tu,mJ,iM,(Me P),o0,P7,LW,Q6,OH,o0,o1,Nh,o0,Qa,WO,aOB,o0,o1,Wy,o0,Ti,aMT,QW,o0,o1,QB,o0,Lv,Wv,Zn,UT,(Mt P),SW,aRN,aM3,mJ,iM,(aKV P),o0,OO,XY,Zl,o0,o1,aLF,o0,QH,aNA,aNV,o0,o1,Qc,o0,RI,Lh,aLL,o0,o1,ON,o0,TZ,Wd,Oc,Q9,(aKR P),WB,aQW,LR,mJ,iM,(Nm P),o0,OX,Yd,N7,o0,o1,Od,o0,MO,WZ,Qn,o0,o1,M8,o0,NV,Qx,aSR,o0,(XM P),M9,Xe,aQC,mJ,iM,(ZH P),o0,WU,P8,Qv,o0,o1,Xx,o0,Pp,Zs,aSH,o0,o1,aJ1,o0,MF,aME,Nf,o0,o1,SX,o0,aR5,aSQ,Vk,Wj,(Ni P),aLN,QD,LS,mJ,iM,(WR P),o0,ZW,Lu,YA,o0,o1,Wb,o0,Nl,aOG,aQN,o0,o1,SB,o0,Si,XD,N1,o0,o1,YG,o0,R7,Rg,M5,W4,(Nz P),MP,LM,PN,mJ,iM,(Ve P),o0,Zk,NL,Pz,o0,o1,ZF,o0,aPY,aRC,Vb,o0,o1,K3,o0,aRA,QZ,LG,o0,o1,NC,o0,UU,O4,RF,aTB,(VM P),ZS,Zv,LO,o0,o1,Wf,o0,Tz,TU,aS8,o0,o1,aS6,o0,OZ,L9,aQ1,o0,o1,XQ,o0,Sw,RD,aPO,o0,o1,Va,o0,K7,aSM,Sj]
def t1(P:Params):BT:=oC 11 (lM P (o4 P) o5)
def s1(w:World)(os:OsState):SharedT:=⟨t1 w.params,617,⟨[],[],[],0,[],[],false,#[],[],0,false,false,false,0,[2000,10,10],false,0,true,[],[],0,false⟩,#[],⟨0,0,0,0⟩,1016,os⟩
def l0:List Stmt:=(bi.drop 0).take 83
theorem r0(w:World)(os:OsState):
  segRunT treeTable pw w 11 an 1 4995 (s0 w os) (piecesOf l0 ev cd ⟨0,0,0,0⟩ bk) =
  some (.next,s1 w os,cd,⟨297,0,308,29⟩):=by kernel_rfl
def vH(P:Params):=di (de P "__name__" 165 iS::(KE P++[dr P "read_items" 1032 623,dr P "read_days" 1040 630,dr P "read_weekdays" 1049 637,de P "MOST_ROW_SIGNS" 1053 (.int 1600 1052),de P "MINUTE" 1055 (.int 0 1054),de P "HOUR" 1057 (.int 1 1056),de P "DAY" 1059 (.int 2 1058),de P "MONTH" 1061 (.int 3 1060),de P "WEEKDAY" 1063 (.int 4 1062),de P "NO_PLACE" 1065 (.int 5 1064),dr P "BOUNDS" 1078 638,dr P "times_of" 1088 648,dr P "days_by" 1100 655,dr P "Row" 1202 733,dr P "read_word" 1211 744,dr P "read_at" 1219 751,dr P "read_row" 1225 756,de P "MOST_BOOKS" 1229 (.int 8 1228),de P "MOST_TALLY" 1231 (.int 24 1230),de P "MOST_DEPTH" 1233 (.int 5 1232),dr P "same_each_day" 1241 763,dr P "all_times" 1247 770,dr P "tally_of" 1253 775,dr P "depth_of" 1259 780,dr P "Book" 1309 818,dr P "checked" 1315 827,dr P "checked_list" 1322 834,dr P "Of" 1363 865,dr P "Joined" 1414 908,dr P "Met" 1465 951,dr P "Less" 1520 996,dr P "Turned" 1573 1041,dr P "add_stretch" 1585 1050,dr P "last_shut_day" 1596 1057,dr P "shut_end" 1605 1064,dr P "paper_of" 1618 1071,de P "MOST_MONTHS" 1622 (.int 492 1621),dr P "minutes_on" 1632 1078,dr P "minutes_by" 1641 1085,dr P "month_of" 1649 1092,dr P "first_at" 1663 1099,dr P "next_from" 1673 1106,dr P "_law_cell_at" 1683 1113,dr P "_law_stir" 1692 1120,dr P "_law_digits" 1703 1127,dr P "_law_whole" 1710 1134,dr P "_law_field" 1723 1141,dr P "_law_row" 1737 1148,dr P "_law_tree" 1743 1153,dr P "_law_rows" 1752 1160,dr P "_law_holds" 1758 1165,dr P "_law_moment" 1770 1172,dr P "_law_near" 1783 1179,dr P "_law_sorts" 1791 1186,dr P "_law_made" 1797 1191,dr P "_law_sizes" 1803 1196,dr P "_law_kept" 1813 1203,dr P "_law_is_made" 1819 1208,dr P "_law_parts_right" 1825 1213,dr P "law" 1831 1218])) 143
def AS:=fD 0 [(1,20),(5,27),(7,40),(9,52),(13,71),(17,90),(20,102),(26,110),(28,117),(30,124),(33,131),(37,138),(41,143),(46,150),(51,157),(59,164),(63,169),(65,176),(70,183),(77,190),(80,197),(82,204),(88,211),(93,218),(95,225),(97,230),(100,237),(105,242),(107,249),(111,254),(117,261),(122,266),(124,273),(126,280),(133,285),(140,292),(147,299),(155,306),(177,313),(179,320),(181,327),(188,334),(190,341),(197,369),(207,402),(221,436),(233,469),(240,495),(253,528),(267,561),(277,594),(282,601),(294,608),(297,615),(309,622),(327,629),(334,636),(351,647),(356,654),(364,661),(415,743),(422,750),(427,755),(438,762),(440,769),(442,774),(444,779),(446,786),(459,826),(467,833),(471,840),(483,873),(502,916),(521,959),(539,1004),(557,1049),(562,1056),(569,1063),(575,1070),(586,1077),(591,1084),(595,1091),(598,1098),(609,1105),(615,1112),(619,1119),(623,1126),(634,1133),(636,1140),(643,1147),(656,1152),(666,1159),(673,1164),(685,1171),(693,1178),(703,1185),(706,1190),(725,1195),(730,1202),(739,1207),(745,1212),(756,1217)]
def sS:=tS 1019 ["text","low","high","read_mark","items","mask","marks","place","item","plain","mark"]
def tK:=fY "read_items" 83
def Cg:=cP "read_items" 1016 309 4 3 617 1030
def vj:=fP "read_items" 83 fJ 622
def vA:=tS 1036 ["text","read"]
def xk:=fY "read_days" 84
def wB:=cP "read_days" 1033 327 1 3 624 1038
def Br:=fP "read_days" 84 fJ 629
def CL:=tS 1044 ["text","read","mask"]
def C7:=fY "read_weekdays" 85
def Au:=cP "read_weekdays" 1041 334 1 3 631 1047
def vL:=fP "read_weekdays" 85 fJ 636
def xP:=di [⟨0,(.int 0 1066),(r 639)⟩,⟨1,(.int 1 1069),(r 640)⟩,⟨3,(.int 3 1072),(r 641)⟩] 3
def Ak:=tu [(.int 0 1067),(.int 59 1068)]
def wg:=tu [(.int 0 1070),(.int 23 1071)]
def ze:=tu [(.int 1 1073),(.int 12 1074)]
def BY:=tS 1082 ["hours","minutes","times","hour"]
def xW:=fY "times_of" 95
def CP:=cP "times_of" 1079 351 2 3 642 1086
def uG:=fP "times_of" 95 jc 647
def xO:=tS 1092 ["days","weekdays","last","first","mask","marks"]
def AG:=fY "days_by" 96
def uU:=cP "days_by" 1089 356 4 3 649 1098
def vw:=fP "days_by" 96 jc 654
def vY(P:Params):=di [de P "__module__" 1108 jc,de P "__qualname__" 1110 (.str "Row" 1109),de P "__firstlineno__" 1112 (.int 364 1111),dr P "__init__" 1120 669,dr P "minutes" 1127 676,dr P "hours" 1134 683,dr P "months" 1141 690,dr P "times" 1148 697,dr P "days_in" 1157 704,dr P "on_days" 1163 709,dr P "holds" 1171 716,dr P "shut_by" 1181 723,dr P "shown" 1188 730,dr P "__static_attributes__" 1195 731] 14
def Bg:=fD 4 [(366,668),(374,675),(377,682),(380,689),(383,696),(386,703),(392,708),(397,715),(400,722),(413,729)]
def yJ:=cK "Row" "Row" 1103 364 659 1106
def Dq:=fr 661 658 jc
def DP:=tS 1116 ["self","fields"]
def Ay:=fz "__init__" "Row.__init__" (ib (tp 97) 0)
def xi:=cO "__init__" "Row.__init__" 1113 366 2 3 663 1118
def wq:=fQ "__init__" "Row.__init__" (ib (tp 97) 0) jc 668
def uh:=tS 1124 ["self"]
def zh:=fT "minutes" "Row.minutes" (ib (tp 97) 1) (ib (tp 71) 1)
def AA:=cO "minutes" "Row.minutes" 1121 374 1 3 670 1125
def Dj:=fS "minutes" "Row.minutes" (ib (tp 97) 1) (ib (tp 71) 1) jc 675
def yP:=tS 1131 ["self"]
def xR:=fT "hours" "Row.hours" (ib (tp 97) 2) (ib (tp 71) 1)
def xZ:=cO "hours" "Row.hours" 1128 377 1 3 677 1132
def zD:=fS "hours" "Row.hours" (ib (tp 97) 2) (ib (tp 71) 1) jc 682
def wH:=tS 1138 ["self"]
def xx:=fz "months" "Row.months" (ib (tp 97) 3)
def yE:=cO "months" "Row.months" 1135 380 1 3 684 1139
def yy:=fQ "months" "Row.months" (ib (tp 97) 3) jc 689
def yw:=tS 1145 ["self"]
def wO:=fT "times" "Row.times" (ib (tp 97) 4) (ib (tp 71) 1)
def Al:=cO "times" "Row.times" 1142 383 1 3 691 1146
def zS:=fS "times" "Row.times" (ib (tp 97) 4) (ib (tp 71) 1) jc 696
def uD:=tS 1152 ["self","kind","month"]
def Bd:=fz "days_in" "Row.days_in" (ib (tp 97) 5)
def tV:=cO "days_in" "Row.days_in" 1149 386 2 3 698 1155
def uN:=fQ "days_in" "Row.days_in" (ib (tp 97) 5) jc 703
def Az:=fz "on_days" "Row.on_days" (ib (tp 97) 6)
def Du:=co [(.str "on_days" 1158),(.str "Row.on_days" 1159),(sf 1160),(i 392),(i 2),(i 0),(i 0),(i 3),(r 705),(.bool true),(i 181),(r 706),.none,.none,.none,(r 707),(i 1161),(i 392),(sf 1162)]
def tG:=fQ "on_days" "Row.on_days" (ib (tp 97) 6) jc 708
def vd:=tS 1167 ["self","moment"]
def uI:=fz "holds" "Row.holds" (ib (tp 97) 7)
def wC:=cO "holds" "Row.holds" 1164 397 2 3 710 1169
def z0:=fQ "holds" "Row.holds" (ib (tp 97) 7) jc 715
def zu:=tS 1175 ["self","moment","parts","date"]
def ua:=fz "shut_by" "Row.shut_by" (ib (tp 97) 8)
def Cc:=cO "shut_by" "Row.shut_by" 1172 400 2 3 717 1179
def yI:=fQ "shut_by" "Row.shut_by" (ib (tp 97) 8) jc 722
def Ap:=tS 1185 ["self"]
def yn:=fT "shown" "Row.shown" (ib (tp 97) 9) (ib (tp 97) 3)
def uH:=cO "shown" "Row.shown" 1182 413 1 3 724 1186
def sR:=fS "shown" "Row.shown" (ib (tp 97) 9) (ib (tp 97) 3) jc 729
def yF:=tS 1189 ["day_marks","hour_mask","minute_mask","month_mask","time_mask","weekday_marks"]
def zl(P:Params):=di [de P "__module__" 1108 jc,de P "__firstlineno__" 1112 (.int 364 1111),dr P "__init__" 1120 669,dr P "minutes" 1127 676,dr P "hours" 1134 683,dr P "months" 1141 690,dr P "times" 1148 697,dr P "days_in" 1157 704,dr P "on_days" 1163 709,dr P "holds" 1171 716,dr P "shut_by" 1181 723,dr P "shown" 1188 730,dr P "__static_attributes__" 1195 731,dr P "__dict__" 1197 734,dr P "__weakref__" 1199 735,de P "__doc__" 1200 .none] 4
def Cj:Obj:=⟨(.type "type"),none,(.cls ⟨"Row",[(.type "object")],[(r 733),(.type "object")],732,"Row",true,[],[],false,none,false⟩),#[none,none,(some (.str "Row" 1101)),(some (.str "Row" 1109)),(some (.builtin "object.__new__")),(some (.bool true))]⟩
def zT:Obj:=⟨(.type "getset_descriptor"),none,(.fields #[(.str "__dict__" 1196),(r 733),(.builtin "function.__dict__"),(.builtin "function.__dict__#set")]),#[]⟩
def AO:Obj:=⟨(.type "getset_descriptor"),none,(.fields #[(.str "__weakref__" 1198),(r 733),(.builtin "ExceptionGroup.__weakref__"),.none]),#[]⟩
def CI:=su 733 733 733
def zX:=bm "object.__init_subclass__" (r 733)
def sj:=tS 1206 ["word","place","bounds"]
def zK:=fY "read_word" 98
def yx:=cP "read_word" 1203 415 2 3 738 1209
def uW:=fP "read_word" 98 jc 743
def Aj:=tS 1215 ["word","place"]
def CV:=fY "read_at" 99
def vF:=cP "read_at" 1212 422 2 3 745 1217
def xf:=fP "read_at" 99 jc 750
def CJ:=fY "read_row" 100
def tP:=co [(.str "read_row" 1220),(.str "read_row" 1221),(sf 1222),(i 427),(i 1),(i 0),(i 0),(i 3),(r 752),(.bool true),(i 181),(r 753),.none,.none,.none,(r 754),(i 1223),(i 427),(sf 1224)]
def A7:=fP "read_row" 100 jc 755
def wV:=tS 1237 ["times","kind"]
def sJ:=fY "same_each_day" 105
def yq:=cP "same_each_day" 1234 438 2 3 757 1239
def zN:=fP "same_each_day" 105 fO 762
def uE:=fY "all_times" 106
def ut:=cP "all_times" 1242 440 0 3 764 1245
def xj:=fP "all_times" 106 fO 769
def ul:=fY "tally_of" 107
def Bi:=co [(.str "tally_of" 1248),(.str "tally_of" 1249),(sf 1250),(i 442),(i 1),(i 0),(i 0),(i 3),(r 771),(.bool true),(i 181),(r 772),.none,.none,.none,(r 773),(i 1251),(i 442),(sf 1252)]
def ur:=fP "tally_of" 107 fO 774
def Bf:=fY "depth_of" 108
def CS:=co [(.str "depth_of" 1254),(.str "depth_of" 1255),(sf 1256),(i 444),(i 1),(i 0),(i 0),(i 3),(r 776),(.bool true),(i 181),(r 777),.none,.none,.none,(r 778),(i 1257),(i 444),(sf 1258)]
def CZ:=fP "depth_of" 108 fO 779
def yA(P:Params):=di [de P "__module__" 1267 fO,de P "__qualname__" 1269 (.str "Book" 1268),de P "__firstlineno__" 1271 (.int 446 1270),dr P "holds" 1279 794,dr P "tally" 1286 801,dr P "depth" 1293 808,dr P "on_days" 1301 815,dr P "__static_attributes__" 1302 816] 8
def zd:=fD 4 [(448,793),(451,800),(454,807),(457,814)]
def C4:=cK "Book" "Book" 1262 446 784 1265
def Cb:=fr 786 783 fO
def vv:=tS 1275 ["self","moment"]
def BU:=fT "holds" "Book.holds" (ib (tp 109) 0) (ib (tp 97) 7)
def CT:=cO "holds" "Book.holds" 1272 448 2 3 788 1277
def DB:=fS "holds" "Book.holds" (ib (tp 109) 0) (ib (tp 97) 7) fO 793
def BN:=tS 1283 ["self"]
def sW:=fT "tally" "Book.tally" (ib (tp 109) 1) (ib (tp 71) 1)
def xF:=cO "tally" "Book.tally" 1280 451 1 3 795 1284
def Bx:=fS "tally" "Book.tally" (ib (tp 109) 1) (ib (tp 71) 1) fO 800
def BE:=tS 1290 ["self"]
def Cz:=fT "depth" "Book.depth" (ib (tp 109) 2) (ib (tp 71) 1)
def vS:=cO "depth" "Book.depth" 1287 454 1 3 802 1291
def Bp:=fS "depth" "Book.depth" (ib (tp 109) 2) (ib (tp 71) 1) fO 807
def yN:=tS 1297 ["self","kind"]
def zQ:=fz "on_days" "Book.on_days" (ib (tp 109) 3)
def zc:=cO "on_days" "Book.on_days" 1294 457 2 3 809 1299
def CM:=fQ "on_days" "Book.on_days" (ib (tp 109) 3) fO 814
def uz(P:Params):=di [de P "__module__" 1267 fO,de P "__firstlineno__" 1271 (.int 446 1270),dr P "holds" 1279 794,dr P "tally" 1286 801,dr P "depth" 1293 808,dr P "on_days" 1301 815,dr P "__static_attributes__" 1302 816,dr P "__dict__" 1304 819,dr P "__weakref__" 1306 820,de P "__doc__" 1307 .none] 4
def Dy:Obj:=⟨(.type "type"),none,(.cls ⟨"Book",[(.type "object")],[(r 818),(.type "object")],817,"Book",true,[],[(r 865),(r 908),(r 951),(r 996),(r 1041)],false,none,false⟩),#[none,none,(some (.str "Book" 1260)),(some (.str "Book" 1268)),(some (.builtin "object.__new__")),(some (.bool true))]⟩
def zf:Obj:=⟨(.type "getset_descriptor"),none,(.fields #[(.str "__dict__" 1303),(r 818),(.builtin "function.__dict__"),(.builtin "function.__dict__#set")]),#[]⟩
def Dt:Obj:=⟨(.type "getset_descriptor"),none,(.fields #[(.str "__weakref__" 1305),(r 818),(.builtin "ExceptionGroup.__weakref__"),.none]),#[]⟩
def uo:=su 818 818 818
def wN:=bm "object.__init_subclass__" (r 818)
def xu:=fY "checked" 110
def yG:=co [(.str "checked" 1310),(.str "checked" 1311),(sf 1312),(i 459),(i 1),(i 0),(i 0),(i 3),(r 823),(.bool true),(i 181),(r 824),.none,.none,.none,(r 825),(i 1313),(i 459),(sf 1314)]
def wt:=fP "checked" 110 fO 826
def xg:=tS 1319 ["books"]
def wm:=fY "checked_list" 111
def zC:=cP "checked_list" 1316 467 1 3 828 1320
def ye:=fP "checked_list" 111 fO 833
def pY:=tu [(r 818)]
def zq(P:Params):=di [de P "__module__" 1330 fO,de P "__qualname__" 1332 (.str "Of" 1331),de P "__firstlineno__" 1334 (.int 471 1333),dr P "__init__" 1342 848,dr P "holds" 1350 855,dr P "on_days" 1358 862,dr P "__static_attributes__" 1360 863] 7
def Dz:=fD 4 [(473,847),(478,854),(481,861)]
def AF:=cK "Of" "Of" 1325 471 838 1328
def DI:=fr 840 837 fO
def yW:=tS 1338 ["self","row"]
def uj:=fz "__init__" "Of.__init__" (ib (tp 112) 0)
def uL:=cO "__init__" "Of.__init__" 1335 473 2 3 842 1340
def y0:=fQ "__init__" "Of.__init__" (ib (tp 112) 0) fO 847
def wY:=tS 1346 ["self","moment"]
def Dg:=fT "holds" "Of.holds" (ib (tp 112) 1) (ib (tp 97) 7)
def AN:=cO "holds" "Of.holds" 1343 478 2 3 849 1348
def tQ:=fS "holds" "Of.holds" (ib (tp 112) 1) (ib (tp 97) 7) fO 854
def AQ:=tS 1354 ["self","kind"]
def Da:=fz "on_days" "Of.on_days" (ib (tp 112) 2)
def yT:=cO "on_days" "Of.on_days" 1351 481 2 3 856 1356
def vQ:=fQ "on_days" "Of.on_days" (ib (tp 112) 2) fO 861
def Ag:=tS 1359 ["row"]
def zE(P:Params):=di [de P "__module__" 1330 fO,de P "__firstlineno__" 1334 (.int 471 1333),dr P "__init__" 1342 848,dr P "holds" 1350 855,dr P "on_days" 1358 862,dr P "__static_attributes__" 1360 863,de P "__doc__" 1361 .none] 2
def za:Obj:=⟨(.type "type"),none,(.cls ⟨"Of",[(r 818)],[(r 865),(r 818),(.type "object")],864,"Of",true,[],[],false,none,false⟩),#[(some (r 835)),none,(some (.str "Of" 1323)),(some (.str "Of" 1331)),(some (.builtin "object.__new__")),(some (.bool true))]⟩
def ya:=su 865 865 865
def sd:=bm "object.__init_subclass__" (r 865)
def uc(P:Params):=di [de P "__module__" 1371 fO,de P "__qualname__" 1373 (.str "Joined" 1372),de P "__firstlineno__" 1375 (.int 483 1374),dr P "__init__" 1383 881,dr P "holds" 1389 886,dr P "tally" 1396 893,dr P "depth" 1403 900,dr P "on_days" 1409 905,dr P "__static_attributes__" 1411 906] 9
def AX:=fD 4 [(485,880),(488,885),(491,892),(494,899),(497,904)]
def yb:=cK "Joined" "Joined" 1366 483 871 1369
def C5:=fr 873 870 fO
def xp:=tS 1379 ["self","books"]
def xA:=fz "__init__" "Joined.__init__" (ib (tp 113) 0)
def wj:=cO "__init__" "Joined.__init__" 1376 485 2 3 875 1381
def xM:=fQ "__init__" "Joined.__init__" (ib (tp 113) 0) fO 880
def BP:=fz "holds" "Joined.holds" (ib (tp 113) 1)
def zo:=co [(.str "holds" 1384),(.str "Joined.holds" 1385),(sf 1386),(i 488),(i 2),(i 0),(i 0),(i 3),(r 882),(.bool true),(i 181),(r 883),.none,.none,.none,(r 884),(i 1387),(i 488),(sf 1388)]
def ub:=fQ "holds" "Joined.holds" (ib (tp 113) 1) fO 885
def zV:=tS 1393 ["self"]
def vV:=fz "tally" "Joined.tally" (ib (tp 113) 2)
def CG:=cO "tally" "Joined.tally" 1390 491 1 3 887 1394
def ww:=fQ "tally" "Joined.tally" (ib (tp 113) 2) fO 892
def vX:=tS 1400 ["self"]
def wU:=fz "depth" "Joined.depth" (ib (tp 113) 3)
def BO:=cO "depth" "Joined.depth" 1397 494 1 3 894 1401
def CU:=fQ "depth" "Joined.depth" (ib (tp 113) 3) fO 899
def wy:=fz "on_days" "Joined.on_days" (ib (tp 113) 4)
def sG:=co [(.str "on_days" 1404),(.str "Joined.on_days" 1405),(sf 1406),(i 497),(i 2),(i 0),(i 0),(i 3),(r 901),(.bool true),(i 181),(r 902),.none,.none,.none,(r 903),(i 1407),(i 497),(sf 1408)]
def DO:=fQ "on_days" "Joined.on_days" (ib (tp 113) 4) fO 904
def wx:=tS 1410 ["books"]
def CB(P:Params):=di [de P "__module__" 1371 fO,de P "__firstlineno__" 1375 (.int 483 1374),dr P "__init__" 1383 881,dr P "holds" 1389 886,dr P "tally" 1396 893,dr P "depth" 1403 900,dr P "on_days" 1409 905,dr P "__static_attributes__" 1411 906,de P "__doc__" 1412 .none] 2
def Dd:Obj:=⟨(.type "type"),none,(.cls ⟨"Joined",[(r 818)],[(r 908),(r 818),(.type "object")],907,"Joined",true,[],[],false,none,false⟩),#[(some (r 868)),none,(some (.str "Joined" 1364)),(some (.str "Joined" 1372)),(some (.builtin "object.__new__")),(some (.bool true))]⟩
def BB:=su 908 908 908
def B8:=bm "object.__init_subclass__" (r 908)
def vB(P:Params):=di [de P "__module__" 1422 fO,de P "__qualname__" 1424 (.str "Met" 1423),de P "__firstlineno__" 1426 (.int 502 1425),dr P "__init__" 1434 924,dr P "holds" 1440 929,dr P "tally" 1447 936,dr P "depth" 1454 943,dr P "on_days" 1460 948,dr P "__static_attributes__" 1462 949] 9
def Dc:=fD 4 [(504,923),(507,928),(510,935),(513,942),(516,947)]
def sU:=cK "Met" "Met" 1417 502 914 1420
def y8:=fr 916 913 fO
def DJ:=tS 1430 ["self","books"]
def A8:=fT "__init__" "Met.__init__" (ib (tp 114) 0) (ib (tp 113) 0)
def uq:=cO "__init__" "Met.__init__" 1427 504 2 3 918 1432
def vZ:=fS "__init__" "Met.__init__" (ib (tp 114) 0) (ib (tp 113) 0) fO 923
def A4:=fz "holds" "Met.holds" (ib (tp 114) 1)
def Ct:=co [(.str "holds" 1435),(.str "Met.holds" 1436),(sf 1437),(i 507),(i 2),(i 0),(i 0),(i 3),(r 925),(.bool true),(i 181),(r 926),.none,.none,.none,(r 927),(i 1438),(i 507),(sf 1439)]
def Cw:=fQ "holds" "Met.holds" (ib (tp 114) 1) fO 928
def yS:=tS 1444 ["self"]
def uY:=fT "tally" "Met.tally" (ib (tp 114) 2) (ib (tp 113) 2)
def yr:=cO "tally" "Met.tally" 1441 510 1 3 930 1445
def Cn:=fS "tally" "Met.tally" (ib (tp 114) 2) (ib (tp 113) 2) fO 935
def DG:=tS 1451 ["self"]
def Bn:=fT "depth" "Met.depth" (ib (tp 114) 3) (ib (tp 113) 3)
def uM:=cO "depth" "Met.depth" 1448 513 1 3 937 1452
def BG:=fS "depth" "Met.depth" (ib (tp 114) 3) (ib (tp 113) 3) fO 942
def BW:=fz "on_days" "Met.on_days" (ib (tp 114) 4)
def Cm:=co [(.str "on_days" 1455),(.str "Met.on_days" 1456),(sf 1457),(i 516),(i 2),(i 0),(i 0),(i 3),(r 944),(.bool true),(i 181),(r 945),.none,.none,.none,(r 946),(i 1458),(i 516),(sf 1459)]
def xn:=fQ "on_days" "Met.on_days" (ib (tp 114) 4) fO 947
def tR:=tS 1461 ["books"]
def yu(P:Params):=di [de P "__module__" 1422 fO,de P "__firstlineno__" 1426 (.int 502 1425),dr P "__init__" 1434 924,dr P "holds" 1440 929,dr P "tally" 1447 936,dr P "depth" 1454 943,dr P "on_days" 1460 948,dr P "__static_attributes__" 1462 949,de P "__doc__" 1463 .none] 2
def B2:Obj:=⟨(.type "type"),none,(.cls ⟨"Met",[(r 818)],[(r 951),(r 818),(.type "object")],950,"Met",true,[],[],false,none,false⟩),#[(some (r 911)),none,(some (.str "Met" 1415)),(some (.str "Met" 1423)),(some (.builtin "object.__new__")),(some (.bool true))]⟩
def uO:=su 951 951 951
def xJ:=bm "object.__init_subclass__" (r 951)
def wW(P:Params):=di [de P "__module__" 1473 fO,de P "__qualname__" 1475 (.str "Less" 1474),de P "__firstlineno__" 1477 (.int 521 1476),dr P "__init__" 1486 967,dr P "holds" 1494 974,dr P "tally" 1501 981,dr P "depth" 1508 988,dr P "on_days" 1514 993,dr P "__static_attributes__" 1517 994] 9
def A9:=fD 4 [(523,966),(528,973),(531,980),(534,987),(537,992)]
def C8:=cK "Less" "Less" 1468 521 957 1471
def v9:=fr 959 956 fO
def zI:=tS 1481 ["self","one","other"]
def Cu:=fz "__init__" "Less.__init__" (ib (tp 115) 0)
def BZ:=cO "__init__" "Less.__init__" 1478 523 3 3 961 1484
def sY:=fQ "__init__" "Less.__init__" (ib (tp 115) 0) fO 966
def uZ:=tS 1490 ["self","moment"]
def Cv:=fT "holds" "Less.holds" (ib (tp 115) 1) (ib (tp 97) 7)
def wz:=cO "holds" "Less.holds" 1487 528 2 3 968 1492
def AY:=fS "holds" "Less.holds" (ib (tp 115) 1) (ib (tp 97) 7) fO 973
def BD:=tS 1498 ["self"]
def wb:=fT "tally" "Less.tally" (ib (tp 115) 2) (ib (tp 113) 2)
def Am:=cO "tally" "Less.tally" 1495 531 1 3 975 1499
def xw:=fS "tally" "Less.tally" (ib (tp 115) 2) (ib (tp 113) 2) fO 980
def yU:=tS 1505 ["self"]
def BX:=fT "depth" "Less.depth" (ib (tp 115) 3) (ib (tp 113) 3)
def xB:=cO "depth" "Less.depth" 1502 534 1 3 982 1506
def xH:=fS "depth" "Less.depth" (ib (tp 115) 3) (ib (tp 113) 3) fO 987
def yV:=fz "on_days" "Less.on_days" (ib (tp 115) 4)
def uv:=co [(.str "on_days" 1509),(.str "Less.on_days" 1510),(sf 1511),(i 537),(i 2),(i 0),(i 0),(i 3),(r 989),(.bool true),(i 181),(r 990),.none,.none,.none,(r 991),(i 1512),(i 537),(sf 1513)]
def yD:=fQ "on_days" "Less.on_days" (ib (tp 115) 4) fO 992
def wQ:=tS 1515 ["one","other"]
def sP(P:Params):=di [de P "__module__" 1473 fO,de P "__firstlineno__" 1477 (.int 521 1476),dr P "__init__" 1486 967,dr P "holds" 1494 974,dr P "tally" 1501 981,dr P "depth" 1508 988,dr P "on_days" 1514 993,dr P "__static_attributes__" 1517 994,de P "__doc__" 1518 .none] 2
def AM:Obj:=⟨(.type "type"),none,(.cls ⟨"Less",[(r 818)],[(r 996),(r 818),(.type "object")],995,"Less",true,[],[],false,none,false⟩),#[(some (r 954)),none,(some (.str "Less" 1466)),(some (.str "Less" 1474)),(some (.builtin "object.__new__")),(some (.bool true))]⟩
def vE:=su 996 996 996
def zt:=bm "object.__init_subclass__" (r 996)
def vm(P:Params):=di [de P "__module__" 1528 fO,de P "__qualname__" 1530 (.str "Turned" 1529),de P "__firstlineno__" 1532 (.int 539 1531),dr P "__init__" 1540 1012,dr P "holds" 1548 1019,dr P "tally" 1555 1026,dr P "depth" 1562 1033,dr P "on_days" 1568 1038,dr P "__static_attributes__" 1570 1039] 9
def tE:=fD 4 [(541,1011),(545,1018),(548,1025),(551,1032),(554,1037)]
def vt:=cK "Turned" "Turned" 1523 539 1002 1526
def Aq:=fr 1004 1001 fO
def yf:=tS 1536 ["self","one"]
def zx:=fz "__init__" "Turned.__init__" (ib (tp 116) 0)
def uu:=cO "__init__" "Turned.__init__" 1533 541 2 3 1006 1538
def yK:=fQ "__init__" "Turned.__init__" (ib (tp 116) 0) fO 1011
def wn:=tS 1544 ["self","moment"]
def xK:=fT "holds" "Turned.holds" (ib (tp 116) 1) (ib (tp 97) 7)
def BI:=cO "holds" "Turned.holds" 1541 545 2 3 1013 1546
def yX:=fS "holds" "Turned.holds" (ib (tp 116) 1) (ib (tp 97) 7) fO 1018
def CW:=tS 1552 ["self"]
def AZ:=fT "tally" "Turned.tally" (ib (tp 116) 2) (ib (tp 113) 2)
def yQ:=cO "tally" "Turned.tally" 1549 548 1 3 1020 1553
def yL:=fS "tally" "Turned.tally" (ib (tp 116) 2) (ib (tp 113) 2) fO 1025
def uS:=tS 1559 ["self"]
def sL:=fT "depth" "Turned.depth" (ib (tp 116) 3) (ib (tp 113) 3)
def wD:=cO "depth" "Turned.depth" 1556 551 1 3 1027 1560
def BA:=fS "depth" "Turned.depth" (ib (tp 116) 3) (ib (tp 113) 3) fO 1032
def AW:=fz "on_days" "Turned.on_days" (ib (tp 116) 4)
def Bh:=co [(.str "on_days" 1563),(.str "Turned.on_days" 1564),(sf 1565),(i 554),(i 2),(i 0),(i 0),(i 3),(r 1034),(.bool true),(i 181),(r 1035),.none,.none,.none,(r 1036),(i 1566),(i 554),(sf 1567)]
def tZ:=fQ "on_days" "Turned.on_days" (ib (tp 116) 4) fO 1037
def AI:=tS 1569 ["one"]
def CN(P:Params):=di [de P "__module__" 1528 fO,de P "__firstlineno__" 1532 (.int 539 1531),dr P "__init__" 1540 1012,dr P "holds" 1548 1019,dr P "tally" 1555 1026,dr P "depth" 1562 1033,dr P "on_days" 1568 1038,dr P "__static_attributes__" 1570 1039,de P "__doc__" 1571 .none] 2
def C2:Obj:=⟨(.type "type"),none,(.cls ⟨"Turned",[(r 818)],[(r 1041),(r 818),(.type "object")],1040,"Turned",true,[],[],false,none,false⟩),#[(some (r 999)),none,(some (.str "Turned" 1521)),(some (.str "Turned" 1529)),(some (.builtin "object.__new__")),(some (.bool true))]⟩
def BM:=su 1041 1041 1041
def vP:=bm "object.__init_subclass__" (r 1041)
def wf:=tS 1579 ["stretches","first","last","told"]
def wZ:=fY "add_stretch" 118
def u9:=cP "add_stretch" 1576 557 4 3 1044 1583
def sC:=fP "add_stretch" 118 rH 1049
def uP:=tS 1589 ["row","day","date","kind","later"]
def Cq:=fY "last_shut_day" 119
def vI:=cP "last_shut_day" 1586 562 2 3 1051 1594
def vp:=fP "last_shut_day" 119 rH 1056
def tJ:=tS 1600 ["row","moment","word"]
def vT:=fY "shut_end" 120
def sZ:=cP "shut_end" 1597 569 3 3 1058 1603
def vi:=fP "shut_end" 120 rH 1063
def yo:=tS 1609 ["row","begin","end","stretches","moment","word","last"]
def yv:=fY "paper_of" 121
def BK:=cP "paper_of" 1606 575 3 3 1065 1616
def An:=fP "paper_of" 121 rH 1070
def Bw:=tS 1626 ["days","minutes","place","times"]
def ve:=fY "minutes_on" 124
def zG:=cP "minutes_on" 1623 586 1 3 1072 1630
def wu:=fP "minutes_on" 124 oY 1077
def CC:=tS 1636 ["known","on_days","kind"]
def zv:=fY "minutes_by" 125
def xU:=cP "minutes_by" 1633 591 3 3 1079 1639
def Be:=fP "minutes_by" 125 oY 1084
def zA:=tS 1645 ["moment","date"]
def Bs:=fY "month_of" 126
def Bb:=cP "month_of" 1642 595 1 3 1086 1647
def Ce:=fP "month_of" 126 oY 1091
def xh:=tS 1653 ["on_days","moment","month","known","turn","start","passed","rest"]
def BL:=fY "first_at" 127
def AK:=cP "first_at" 1650 598 2 3 1093 1661
def uC:=fP "first_at" 127 oY 1098
def Bu:=tS 1667 ["row","moment","found"]
def Ci:=tS 1670 ["row"]
def vW:=fY "next_from" 128
def BJ:=cP "next_from" 1664 609 2 3 1100 1671
def zH:=fP "next_from" 128 oY 1105
def zW:=tS 1679 ["_law_script","_law_k"]
def Ac:=fY "_law_cell_at" 130
def Bv:=cP "_law_cell_at" 1676 615 2 3 1107 1681
def uV:=fP "_law_cell_at" 130 iS 1112
def vM:=tS 1687 ["_law_number","_law_first","_law_second"]
def vU:=fY "_law_stir" 131
def xD:=cP "_law_stir" 1684 619 1 3 1114 1690
def vO:=fP "_law_stir" 131 iS 1119
def Ba:=tS 1696 ["_law_cell","_law_sizes_here","_law_mixed","_law_found","_law_size"]
def tL:=fY "_law_digits" 132
def yH:=cP "_law_digits" 1693 623 3 3 1121 1701
def sQ:=fP "_law_digits" 132 iS 1126
def zP:=tS 1707 ["_law_found"]
def Dh:=fY "_law_whole" 133
def DA:=cP "_law_whole" 1704 634 1 3 1128 1708
def xY:=fP "_law_whole" 133 iS 1133
def C3:=tS 1714 ["_law_parts","_law_low","_law_high","_law_one","_law_later","_law_by","_law_some"]
def uk:=fY "_law_field" 134
def xy:=cP "_law_field" 1711 636 3 3 1135 1721
def Ca:=fP "_law_field" 134 iS 1140
def Ae:=tS 1727 ["_law_cell","_law_mixed","_law_parts","_law_one","_law_day","_law_days","_law_weekdays","_law_words"]
def uA:=fY "_law_row" 135
def zy:=cP "_law_row" 1724 643 2 3 1142 1735
def zp:=fP "_law_row" 135 iS 1147
def zj:=fY "_law_tree" 136
def yk:=co [(.str "_law_tree" 1738),(.str "_law_tree" 1739),(sf 1740),(i 656),(i 4),(i 0),(i 0),(i 3),(r 1149),(.bool true),(i 181),(r 1150),.none,.none,.none,(r 1151),(i 1741),(i 656),(sf 1742)]
def Ab:=fP "_law_tree" 136 iS 1152
def Ao:=tS 1747 ["_law_tree_here","_law_rows_here","_law_part"]
def wF:=fY "_law_rows" 137
def wA:=cP "_law_rows" 1744 666 1 3 1154 1750
def yB:=fP "_law_rows" 137 iS 1159
def AH:=fY "_law_holds" 138
def zU:=co [(.str "_law_holds" 1753),(.str "_law_holds" 1754),(sf 1755),(i 673),(i 2),(i 0),(i 0),(i 3),(r 1161),(.bool true),(i 181),(r 1162),.none,.none,.none,(r 1163),(i 1756),(i 673),(sf 1757)]
def Bo:=fP "_law_holds" 138 iS 1164
def wI:=tS 1762 ["_law_cell","_law_mixed","_law_parts","_law_year","_law_on","_law_number"]
def Cf:=fY "_law_moment" 139
def CY:=cP "_law_moment" 1759 685 2 3 1166 1768
def tF:=fP "_law_moment" 139 iS 1171
def Aw:=tS 1774 ["_law_tree_here","_law_cell","_law_mixed","_law_parts","_law_moment_here","_law_rows_here","_law_found"]
def wG:=fY "_law_near" 140
def xb:=cP "_law_near" 1771 693 3 3 1173 1781
def Ck:=fP "_law_near" 140 iS 1178
def zg:=tS 1787 ["_law_book","_law_some"]
def vC:=fY "_law_sorts" 141
def yj:=cP "_law_sorts" 1784 703 1 3 1180 1789
def tH:=fP "_law_sorts" 141 iS 1185
def tO:=fY "_law_made" 142
def yY:=co [(.str "_law_made" 1792),(.str "_law_made" 1793),(sf 1794),(i 706),(i 2),(i 0),(i 0),(i 3),(r 1187),(.bool true),(i 181),(r 1188),.none,.none,.none,(r 1189),(i 1795),(i 706),(sf 1796)]
def uK:=fP "_law_made" 142 iS 1190
def AR:=fY "_law_sizes" 143
def yO:=co [(.str "_law_sizes" 1798),(.str "_law_sizes" 1799),(sf 1800),(i 725),(i 1),(i 0),(i 0),(i 3),(r 1192),(.bool true),(i 181),(r 1193),.none,.none,.none,(r 1194),(i 1801),(i 725),(sf 1802)]
def AV:=fP "_law_sizes" 143 iS 1195
def xI:=tS 1807 ["_law_tree_here","_law_book","_law_inner","_law_word"]
def By:=fY "_law_kept" 144
def Bz:=cP "_law_kept" 1804 730 3 3 1197 1811
def zJ:=fP "_law_kept" 144 iS 1202
def wa:=fY "_law_is_made" 145
def yM:=co [(.str "_law_is_made" 1814),(.str "_law_is_made" 1815),(sf 1816),(i 739),(i 3),(i 0),(i 0),(i 3),(r 1204),(.bool true),(i 181),(r 1205),.none,.none,.none,(r 1206),(i 1817),(i 739),(sf 1818)]
def zr:=fP "_law_is_made" 145 iS 1207
def DQ:=fY "_law_parts_right" 146
def uF:=co [(.str "_law_parts_right" 1820),(.str "_law_parts_right" 1821),(sf 1822),(i 745),(i 3),(i 0),(i 0),(i 3),(r 1209),(.bool true),(i 181),(r 1210),.none,.none,.none,(r 1211),(i 1823),(i 745),(sf 1824)]
def w6:=fP "_law_parts_right" 146 iS 1212
def Cr:=fY "law" 147
def vf:=co [(.str "law" 1826),(.str "law" 1827),(sf 1828),(i 756),(i 1),(i 0),(i 0),(i 3),(r 1214),(.bool true),(i 181),(r 1215),.none,.none,.none,(r 1216),(i 1829),(i 756),(sf 1830)]
def zB:=fP "law" 147 iS 1217
def hL(P:Params):List Obj:=lM P (vH P) AS++[o0,o1,sS,o0,tK,Cg,vj,o0,o1,vA,o0,xk,wB,Br,o0,o1,CL,o0,C7,Au,vL,xP,Ak,wg,ze,o0,o1,BY,o0,xW,CP,uG,o0,o1,xO,o0,AG,uU,vw,o0,iM,(vY P),o0,Bg,yJ,Dq,o0,o1,DP,o0,Ay,xi,wq,o0,o1,uh,o0,zh,AA,Dj,o0,o1,yP,o0,xR,xZ,zD,o0,o1,wH,o0,xx,yE,yy,o0,o1,yw,o0,wO,Al,zS,o0,o1,uD,o0,Bd,tV,uN,o0,o1,Az,Du,tG,o0,o1,vd,o0,uI,wC,z0,o0,o1,zu,o0,ua,Cc,yI,o0,o1,Ap,o0,yn,uH,sR,yF,(zl P),Cj,zT,AO,CI,zX,o0,o1,sj,o0,zK,yx,uW,o0,o1,Aj,o0,CV,vF,xf,o0,o1,CJ,tP,A7,o0,o1,wV,o0,sJ,yq,zN,o0,o1,o0,o0,uE,ut,xj,o0,o1,ul,Bi,ur,o0,o1,Bf,CS,CZ,o0,iM,(yA P),o0,zd,C4,Cb,o0,o1,vv,o0,BU,CT,DB,o0,o1,BN,o0,sW,xF,Bx,o0,o1,BE,o0,Cz,vS,Bp,o0,o1,yN,o0,zQ,zc,CM,o0,(uz P),Dy,zf,Dt,uo,wN,o0,o1,xu,yG,wt,o0,o1,xg,o0,wm,zC,ye,pY,iM,(zq P),o0,Dz,AF,DI,o0,o1,yW,o0,uj,uL,y0,o0,o1,wY,o0,Dg,AN,tQ,o0,o1,AQ,o0,Da,yT,vQ,Ag,(zE P),za,ya,sd,pY,iM,(uc P),o0,AX,yb,C5,o0,o1,xp,o0,xA,wj,xM,o0,o1,BP,zo,ub,o0,o1,zV,o0,vV,CG,ww,o0,o1,vX,o0,wU,BO,CU,o0,o1,wy,sG,DO,wx,(CB P),Dd,BB,B8,pY,iM,(vB P),o0,Dc,sU,y8,o0,o1,DJ,o0,A8,uq,vZ,o0,o1,A4,Ct,Cw,o0,o1,yS,o0,uY,yr,Cn,o0,o1,DG,o0,Bn,uM,BG,o0,o1,BW,Cm,xn,tR,(yu P),B2,uO,xJ,pY,iM,(wW P),o0,A9,C8,v9,o0,o1,zI,o0,Cu,BZ,sY,o0,o1,uZ,o0,Cv,wz,AY,o0,o1,BD,o0,wb,Am,xw,o0,o1,yU,o0,BX,xB,xH,o0,o1,yV,uv,yD,wQ,(sP P),AM,vE,zt,pY,iM,(vm P),o0,tE,vt,Aq,o0,o1,yf,o0,zx,uu,yK,o0,o1,wn,o0,xK,BI,yX,o0,o1,CW,o0,AZ,yQ,yL,o0,o1,uS,o0,sL,wD,BA,o0,o1,AW,Bh,tZ,AI,(CN P),C2,BM,vP,o0,o1,wf,o0,wZ,u9,sC,o0,o1,uP,o0,Cq,vI,vp,o0,o1,tJ,o0,vT,sZ,vi,o0,o1,yo,o0,yv,BK,An,o0,o1,Bw,o0,ve,zG,wu,o0,o1,CC,o0,zv,xU,Be,o0,o1,zA,o0,Bs,Bb,Ce,o0,o1,xh,o0,BL,AK,uC,o0,o1,Bu,Ci,vW,BJ,zH,o0,o1,zW,o0,Ac,Bv,uV,o0,o1,vM,o0,vU,xD,vO,o0,o1,Ba,o0,tL,yH,sQ,o0,o1,zP,o0,Dh,DA,xY,o0,o1,C3,o0,uk,xy,Ca,o0,o1,Ae,o0,uA,zy,zp,o0,o1,zj,yk,Ab,o0,o1,Ao,o0,wF,wA,yB,o0,o1,AH,zU,Bo,o0,o1,wI,o0,Cf,CY,tF,o0,o1,Aw,o0,wG,xb,Ck,o0,o1,zg,o0,vC,yj,tH,o0,o1,tO,yY,uK,o0,o1,AR,yO,AV,o0,o1,xI,o0,By,Bz,zJ,o0,o1,wa,yM,zr,o0,o1,DQ,uF,w6,o0,o1,Cr,vf,zB]
def t2(P:Params):BT:=oC 12 (hL P)
def s2(w:World)(os:OsState):SharedT:=⟨t2 w.params,1219,⟨[],[],[],0,[],[],false,#[],[],0,false,false,false,0,[2000,10,10],false,0,true,[],[],0,false⟩,#[],⟨0,0,0,0⟩,1832,os⟩
def l1:List Stmt:=(bi.drop 83).take 65
theorem r1(w:World)(os:OsState):
  segRunT treeTable pw w 11 an 1 4046 (s1 w os) (piecesOf l1 ev cd ⟨297,0,308,29⟩ bk) =
  some (.next,s2 w os,cd,⟨756,0,771,170⟩):=
 byRow2 "special-get-raises" (P:=fun w=>segRunT treeTable pw w 11 an 1 4046 (s1 w os) (piecesOf l1 ev cd ⟨297,0,308,29⟩ bk)=some (.next,s2 w os,cd,⟨756,0,771,170⟩)) (fun w=>by kernel_rfl) (fun w=>by kernel_rfl) w
def hF(P:Params):Heap:=⟨⟨hL P⟩,⟨[],[],[],0,[],[],false,#[],[],0,false,false,false,0,[2000,10,10],false,0,true,[],[],0,false⟩⟩
def sF(w:World)(os:OsState):Shared:=⟨hF w.params,#[],⟨0,0,0,0⟩,1832,os⟩
theorem eY(w:World)(os:OsState):
  topRun treeTable pw w 11 an 2 (s2 w os).abs (restOf [] ev cd ⟨756,0,771,170⟩ bk) =
  some (sF w os):=by kernel_rfl
theorem bis:bi=(l0++(l1++[])):=by kernel_rfl
theorem run(w:World)(os:OsState):topRun treeTable pw w 11 an (12+(1+(4995+(4046+(2))))) ⟨boot_heap w.params,⟨[]⟩,boot_drawn,boot_toks,os⟩ (topStub pw)=some (sF w os):=by
 refine go_top (pre w os) (piece_block (Wg w os) ?_)
 rw[bis]
 exact (piece_app (segRun_of (r0 w os)) (piece_app (segRun_of (r1 w os)) (eY w os)))
theorem opn:∀w:World,(fencedOpening treeTable pw w 18204).map (fun s=>(s.heap,s.gens,s.drawn,s.toks))=some (boot_heap w.params,⟨[]⟩,boot_drawn,boot_toks):=
 boot_open (by kernel_rfl) rfl (fun s=>by kernel_rfl)
theorem W5(w:World):((boot_heap w.params).isNs mainGlobals&&(⟨[]⟩:Array GenState).size==0,(boot_heap w.params).objs.size,(boot_heap w.params).nsMap mainGlobals "__annotations__")=(true,11,an):=by kernel_rfl
end
end
theorem OY{q:Program}{loose mods:List Str}{Xt:Shared->Bool}{s:Shared}
  (e1:seen ((recsOf q).map (·.name)) (ownsOf q) [] {s with gens:= #[]}=expectedOf q) (e2:s.heap.bltView=bltViewBooted)
  (a1:s.heap.keysOk (looseW q loose) ((recsOf q).map (·.name)) ((litsOf q).map (·.1)) ((clssOf q (looseW q loose)).map (·.name))=true)
  (a2:s.heap.accountedOkI mods=true) (a3:s.heap.isNs mainGlobals=true) (a4:s.heap.isNs builtinsNs=true)
  (a5:tablesOk q s.heap=true) (a6:Xt s=true) (a7:(s.gens.size==0)=true) (e4:tabsOk q s=true)
  (e5:pinSeenD q (drecsOf q) s=pinGoodD (drecsOf q)) (e6:plainSeenE q (looseW q loose) s=plainGoodE q (looseW q loose))
  (e7:plainSeenD q loose s=plainGoodD q loose) (e8:wideSeen q s=wideGood q) (e9:clsSeenW q loose s=clsGoodW q loose):
  openSeen q loose mods Xt true s=openGood q loose:=by
 unfold openSeen openGood
 rw[e1,e2,a1,a2,a3,a4,a5,a6,if_pos rfl,a7,e4,e5,e6,e7,e8,e9];rfl
noncomputable def tA{α:Type}(n:Nat):List α->List α:=Nat.rec (fun _=>[]) (fun _ ih l=>List.rec [] (fun a as _=>a::ih as) l) n
noncomputable def tB{α:Type}(n:Nat):List α->List α:=Nat.rec (fun _=>[]) (fun _ ih l=>List.rec [] (fun a as _=>a::ih as) l) n
noncomputable def dA{α:Type}(n:Nat):List α->List α:=Nat.rec (fun l=>l) (fun _ ih l=>List.rec [] (fun _ as _=>ih as) l) n
noncomputable def dB{α:Type}(n:Nat):List α->List α:=Nat.rec (fun l=>l) (fun _ ih l=>List.rec [] (fun _ as _=>ih as) l) n
theorem pT{α:Type}:∀(n:Nat) {l r:List α},tA n l=tB n r->dA n l=dB n r->l=r
 |0,_,_,_,h=>h
 |n+1,l,r,h1,h2=>by
  cases l with
  |nil=>
   cases r with
   |nil=>rfl
   |cons b s=>cases h1
  |cons a l=>
   cases r with
   |nil=>cases h1
   |cons b s=>
    injection h1 with e1 e2
    rw[e1,pT n e2 h2]
noncomputable def gD:Program:=view PySem.Challenge.pw_fivefields_k61_books_hold [0,2,3,4,5,6,8,10,11,12,13,14,15,16,17,18,19,20,21,23,24,25,27,28,29,31,32,33,34,35,36,37,39,40,41,42,43,44,45,47,48,49,50,51,52,53,54,55,56,57,59,60,61,62,63,64,65,66,67,68,69,70,71,72,73,74,75,76,77,78,79,80,81,82,83,84,85,87,88,89,90,91,92,93,94,95,96,97,98,99,100,102,103,104,105,106,107,108,109,110,111,112,113,114,115,116,118,119,120,121,123,124,125,126,127,128,130,131,132,133,134,135,136,137,138,139,140,141,142,143,144,145,146,147]
noncomputable def free:List Str:=[Str.ofString "Last",Str.ofString "BOUNDS"]
noncomputable def read:List (Str×WData):=[]
section
set_option maxHeartbeats 0
set_option maxRecDepth 100000
noncomputable section
def XT:Shared->Bool:=fun z=>xlAt gD read z&&recOk (RowW.records (OpenRow.toRowW (OpenLaw.row PySem.Challenge.rw_fivefields_k61_books_hold))) z
abbrev SE(w:World)(os:OsState):=openSeen gD free (importedModules pw.main.body) XT true (sF w os)
section
variable(w:World)(os:OsState)
theorem z1:seen ((recsOf gD).map (·.name)) (ownsOf gD) [] {sF w os with gens:= #[]}=expectedOf gD:=by kernel_rfl
theorem z2:(sF w os).heap.bltView=bltViewBooted:=by kernel_rfl
theorem y1:(sF w os).heap.keysOk (looseW gD free) ((recsOf gD).map (·.name)) ((litsOf gD).map (·.1)) ((clssOf gD (looseW gD free)).map (·.name))=true:=by kernel_rfl
theorem y2:(sF w os).heap.accountedOkI (importedModules pw.main.body)=true:=by kernel_rfl
theorem y3:(sF w os).heap.isNs mainGlobals=true:=by kernel_rfl
theorem y4:(sF w os).heap.isNs builtinsNs=true:=by kernel_rfl
theorem y5:tablesOk gD (sF w os).heap=true:=by kernel_rfl
theorem y6:XT (sF w os)=true:=by kernel_rfl
theorem y7:((sF w os).gens.size==0)=true:=by kernel_rfl
theorem z4:tabsOk gD (sF w os)=true:=by kernel_rfl
theorem z5:pinSeenD gD (drecsOf gD) (sF w os)=pinGoodD (drecsOf gD):=by kernel_rfl
theorem z6:plainSeenE gD (looseW gD free) (sF w os)=plainGoodE gD (looseW gD free):=by kernel_rfl
theorem z7:plainSeenD gD free (sF w os)=plainGoodD gD free:=by kernel_rfl
theorem z8:wideSeen gD (sF w os)=wideGood gD:=by kernel_rfl
theorem z9:clsSeenW gD free (sF w os)=clsGoodW gD free:=by kernel_rfl
theorem look:SE w os=openGood gD free:=OY (q:=gD) (loose:=free) (mods:=importedModules pw.main.body) (Xt:=XT) (s:=sF w os) (z1 w os) (z2 w os) (y1 w os) (y2 w os) (y3 w os) (y4 w os) (y5 w os) (y6 w os) (y7 w os) (z4 w os) (z5 w os) (z6 w os) (z7 w os) (z8 w os) (z9 w os)
end
theorem Mq(w:World)(os:OsState):(staticsOk (importedModules pw.main.body) (boot_heap w.params) (hF w.params)&&namesBound pw (hF w.params)
  &&gensDone (sF w os)&&laidKept (boot_heap w.params) (hF w.params))=true:=by kernel_rfl
section
set_option Elab.async false
local macro_rules
  | `(tactic| o_head $H) => `(tactic| (have kk := $H; assumption))
theorem d0(h:PySem.Challenge.rw_fivefields_k61_books_hold.row.Holds):PySem.Challenge.rw_fivefields_k61_books_hold.row.Holds:=by
 w_on
 k_head
end
def kL(w:World)(os:OsState):List (Option Obj):=((d0.heap_1 w.params).map fun p=>p.1).map (sF w os).heap.get?
def kR(w:World):List (Option Obj):=(d0.heap_1 w.params).map fun p=>some p.2
theorem k0(w:World)(os:OsState):tA 220 (kL w os)=tB 220 (kR w):=by kernel_rfl
theorem k1(w:World)(os:OsState):tA 220 (dA 220 (kL w os))=tB 220 (dB 220 (kR w)):=by kernel_rfl
theorem k2(w:World)(os:OsState):tA 220 (dA 220 (dA 220 (kL w os)))=tB 220 (dB 220 (dB 220 (kR w))):=by kernel_rfl
theorem k3(w:World)(os:OsState):tA 220 (dA 220 (dA 220 (dA 220 (kL w os))))=tB 220 (dB 220 (dB 220 (dB 220 (kR w)))):=by kernel_rfl
theorem k4(w:World)(os:OsState):(dA 220 (dA 220 (dA 220 (dA 220 (kL w os)))))=(dB 220 (dB 220 (dB 220 (dB 220 (kR w))))):=by kernel_rfl
theorem kk(w:World)(os:OsState):((d0.heap_1 w.params).map fun p=>p.1).map (sF w os).heap.get? =(d0.heap_1 w.params).map fun p=>some p.2:=pT 220 (k0 w os) (pT 220 (k1 w os) (pT 220 (k2 w os) (pT 220 (k3 w os) (k4 w os))))
abbrev rR:OpenRow:=OpenLaw.row PySem.Challenge.rw_fivefields_k61_books_hold
def as0:List Addr:=(d0.heap_1 {strHash:=fun _=>0,shareClass:=fun _=>0,mergeTok:=fun t=>t,idOf:=fun _=>0,idOfShared:=fun _ _=>0,followText:=fun _=>true,idOfImm:=fun _=>0}).map (·.1)
theorem oa(P:Params):as0=(d0.heap_1 P).map (·.1):=by kernel_rfl
theorem Ng:LeftO rR.prog gD free XT (kHook d0.heap_1 as0 oa).obs (kHook d0.heap_1 as0 oa).val 18204:=by
 refine LeftO.of_pieces opn W5 run rfl ?_
 intro w
 funext os
 refine looks_pair (Mq w os) (looks_pair (look w os) ?_)
 show as0.map (sF w os).heap.get? =(d0.heap_1 w.params).map fun p=>some p.2
 rw[oa w.params]
 exact kk w os
theorem dS:(defOf gD rR.name).isSome=true:=by kernel_rfl
def dL:DefRec:=((defOf gD rR.name).get dS).1
theorem h1:defOf gD rR.name=some (dL,[]):=by kernel_rfl
theorem h2:rR.prog.theDef rR.name=some (dL.params,dL.body,dL.scope):=by kernel_rfl
theorem h3:kwWritten? dL.params.kwonlyargs dL.params.kw_defaults=some []:=by kernel_rfl
theorem h4:dL.params.defaults=[]:=by kernel_rfl
theorem h5:dL.name="law":=by kernel_rfl
theorem h6:(!rR.writes||rR.records.isEmpty)=true:=by kernel_rfl
theorem h7:(chainsOk gD&&opensWell rR.prog&&(frees rR.toRowW&&rR.within.isEmpty))=true:=by decide +kernel
theorem h8:rR.prog.bare:=⟨rfl,rfl,rfl,rfl,rfl,by decide +kernel⟩
theorem lst(said:rR.wellSaid=true)(hw:rR.toRowW.promised)
  (hc:WalkO gD free (XL gD read) (kHook d0.heap_1 as0 oa).says rR.toRowW dL [] fun f vs=>PySem.call f vs):rR.Holds:=
 holds_open (q:=gD) (loose:=free) (Xt:=XT) (XP:=XL gD read) Ng (kHook d0.heap_1 as0 oa).of (kHook d0.heap_1 as0 oa).keeps
  (fun z y=>xl_of z (Bool.and_eq_true_iff.mp y).1) XL.keeps h1 h2 h3 (fun z y=>recFacts_of (Bool.and_eq_true_iff.mp y).2) h6 said h7 h8 hw hc
theorem Fj:((recsOf gD).find? (fun e=>e.name==Str.ofString "next_from")).isSome=true:=by kernel_rfl
theorem SN:(recsOf gD).find? (fun e=>e.name==Str.ofString "next_from")=some (((recsOf gD).find? (fun e=>e.name==Str.ofString "next_from")).get Fj):=(Option.some_get Fj).symm
theorem P3(P:Params):tabIn (d0.heap_1 P) "next_from"=some (1105,1101):=by kernel_rfl
theorem YO(P:Params):(d0.heap_1 P).lookup 1101=none:=by kernel_rfl
theorem tb(w:World)(h:Heap)(mean:ExcName->Option Value)(mg mb:Str->Option Value)(X:(d0.heap_1 w.params).In h)(T:Top gD (looseW gD free) mean mg mb h):∀b∈[1101],(isCodeTable h b/\h.get? b=some (tabObj #[]))/\(d0.heap_1 w.params).lookup b=none:=by
 intro b hb
 simp only[List.mem_cons,List.not_mem_nil,or_false] at hb
 rcases hb with rfl
 ·obtain⟨h1,h2⟩:=tab_of T X SN (P3 w.params)
  exact⟨⟨(h1.tab h2).isCodeTable,h2⟩,YO w.params⟩
theorem bi4(P:Params):nsIn (d0.heap_1 P) mainGlobals "__builtins__"=some (some (.ref 4)):=by kernel_rfl
theorem bl4(P:Params):(d0.heap_1 P).lookup 4=none:=by kernel_rfl
theorem tbm(w:World)(h:Heap)(mg:Str->Option Value)(X:(d0.heap_1 w.params).In h)(G:h.Ns mainGlobals mg):mg "__builtins__"=some (.ref 4)/\(d0.heap_1 w.params).lookup 4=none:=⟨mg_of X G (bi4 w.params),bl4 w.params⟩
end
end
end Hd
local macro_rules
  | `(⟨$xs,*⟩)=>do
    let s:=xs.getElems
    if s.any (fun y=>match y with|`(())=>true|`((()))=>true|_=>false) then
      let mut z:Array (Lean.TSyntax `term):=#[]
      for y in s do
        match y with
        | `(())=>z:=(z.push (<-`(_))).push (<-`(rfl))
        | `((()))=>z:=(((z.push (<-`(_))).push (<-`(_))).push (<-`(rfl))).push (<-`(rfl))
        | _=>z:=z.push y
      `(⟨$z,*⟩)
    else Lean.Macro.throwUnsupported
local macro_rules
  | `(⋯)=>`(by omega)
local macro_rules
  | `(tactic|trivial)=>`(tactic|(intro _ _ _ _ h;first|(cases h;subst_vars;rfl)|(repeat first|(have e:=h.1;subst e;rfl)|obtain⟨_,h⟩:=h)))
set_option Elab.async false
set_option linter.all false
set_option maxRecDepth 100000
namespace L2
open PySem PySem.Spec PyProof.Rows
abbrev FG:=PySem.W.Frag
abbrev dF:=@wpAny_passesOwn
abbrev dG:=@wpAny_bind
abbrev dH:=@wpAny_mono
abbrev dI:=@sizeLine_eq
abbrev dJ:=@wpAny_holding
abbrev dM:=@of_decide_eq_true
abbrev dN:=@decide_eq_true
abbrev dO:=@decide_eq_true_eq
abbrev dP:=@decide_eq_false
abbrev dQ:=@wpAny_Call_Name_kw
abbrev dR:=@wpAny_pure
abbrev dU:=@wpAny_truthy_bool
abbrev aX:=@Nat.le_refl
abbrev aY:=@List.length_map
abbrev aZ:=@List.length_append
abbrev a8:=@List.map_append
abbrev a9:=@Heap.lt_size
abbrev bA:=@List.mem_cons
abbrev bB:=@Int.le_refl
abbrev bC:=@Nat.lt_of_lt_of_le
abbrev bD:=@Heap.get?_push_of_some
abbrev bE:=@Nat.ne_of_lt
abbrev bF:=@Option.some.inj
abbrev bG:=@Bool.false_ne_true
abbrev bH:=@List.take_succ
abbrev bI:=@List.mem_map
abbrev bJ:=@List.size_toArray
abbrev bK:=@Nat.zero_le
abbrev bL:=@List.take_length
abbrev bM:=@List.map_cons
abbrev bN:=@List.getElem?_map
abbrev bO:=@Heap.get?_push_size
abbrev bP:=@List.mem_cons_of_mem
abbrev bQ:=@Int.toNat_natCast
abbrev bR:=@Nat.le_trans
abbrev bS:=@List.mem_cons_self
abbrev bU:=@List.mem_of_getElem?
abbrev bV:=@Bool.and_eq_true
abbrev bW:=@List.mem_singleton
abbrev bX:=@List.length_cons
abbrev bY:=@Int.eq_ofNat_of_zero_le
abbrev bZ:=@Int.toNat_of_nonneg
abbrev b7:=@List.length_singleton
abbrev b8:=@Int.le_of_lt
abbrev b9:=@List.mem_append
abbrev cA:=@List.all_eq_true
abbrev cC:=@List.getElem?_eq_getElem
abbrev cD:=@List.cons_ne_nil
abbrev cE:=@List.mem_append_right
abbrev cF:=@List.append_nil
abbrev cG:=@List.any_cons
abbrev cH:=@Nat.lt_of_le_of_lt
abbrev cI:=@Nat.lt_irrefl
abbrev cJ:=@List.mem_range
abbrev cL:=@Bool.eq_iff_iff
abbrev cM:=@List.map_map
abbrev cN:=@List.any_map
abbrev cQ:=@Int.emod_nonneg
abbrev cR:=@Int.emod_lt_of_pos
abbrev cS:=@List.filterMap_cons
abbrev cT:=@List.getElem?_eq_some_iff
abbrev cU:=@Int.natCast_nonneg
abbrev cV:=@List.any_eq_false
abbrev cW:=@Option.isSome_iff_exists
abbrev cX:=@List.length_take
abbrev cY:=@List.length_replicate
abbrev cZ:=@List.lookup_cons
abbrev c5:=@Option.map_some
abbrev c6:=@Int.ediv_nonneg
abbrev c7:=@List.find?_cons
abbrev c8:=@List.sum_append
abbrev c9:=@List.not_mem_nil
abbrev dC:=@Array.length_toList
abbrev dD:=@List.filterMap_append
abbrev dE:=@List.take_of_length_le
noncomputable abbrev fA:=Sum Int Str
noncomputable def nY:fA->Value->Bool
 |.inl k,v=>Value.isInt k v
 |.inr x,v=>Value.isStrOf x v
noncomputable def yZ(w:World):fA->Int
 |.inl k=>hashInt k
 |.inr x=>hashStr w x
theorem lH:∀{k:fA} {v:Value},nY k v=true->(∃i t,k=Sum.inl i/\v=Value.int i t)∨(∃x t,k=Sum.inr x/\v=Value.str x t)
 |.inl i,v,h=>by
  obtain⟨t,e⟩:=Value.isInt_shape (k:=i) (v:=v) h;exact .inl ⟨i,t,rfl,e⟩
 |.inr x,v,h=>by
  obtain⟨t,e⟩:=Value.isStrOf_shape (x:=x) (v:=v) h;exact .inr ⟨x,t,rfl,e⟩
theorem K8(i:Int)(t:Tok):nY (.inl i) (.int i t)=true:=by simp[nY,Value.isInt]
theorem Xa(x:Str)(t:Tok):nY (.inr x) (.str x t)=true:=by simp[nY,Value.isStrOf]
theorem UZ(a b:Int):decide ((Sum.inl a:fA)=Sum.inl b)=(a==b):=by
 by_cases e:a=b
 ·subst e;simp
 ·have h:¬(Sum.inl a:fA)=Sum.inl b:=λq=>e (Sum.inl.inj q);rw[dP h];exact (beq_eq_false_iff_ne.mpr e).symm
theorem aI1(a b:Str):decide ((Sum.inr a:fA)=Sum.inr b)=decide (a=b):=by
 by_cases e:a=b
 ·subst e;simp
 ·have h:¬(Sum.inr a:fA)=Sum.inr b:=λq=>e (Sum.inr.inj q);rw[dP h,dP e]
theorem Yn(a:Int)(b:Str):decide ((Sum.inl a:fA)=Sum.inr b)=false:=dP (λq=>nomatch q)
theorem R1(a:Str)(b:Int):decide ((Sum.inr a:fA)=Sum.inl b)=false:=dP (λq=>nomatch q)
noncomputable def i7(prog:Program)(w:World):PySem.KeyKind prog w fA where
 is:=nY
 hash:=yZ w
 inj:=λv a b ha hb=>by
  rcases lH ha with ⟨i,t,rfl,rfl⟩ | ⟨x,t,rfl,rfl⟩
  ·rcases lH hb with ⟨j,u,rfl,e⟩ | ⟨y,u,rfl,e⟩
   ·injection e with e1 _;rw[e1]
   ·exact nomatch e
  ·rcases lH hb with ⟨j,u,rfl,e⟩ | ⟨y,u,rfl,e⟩
   ·exact nomatch e
   ·injection e with e1 _;rw[e1]
 byValue:=λk v h=>by
  rcases lH h with ⟨i,t,rfl,rfl⟩ | ⟨x,t,rfl,rfl⟩<;>rfl
 pyHash:=λhv h=>by
  rcases lH hv with ⟨i,t,rfl,rfl⟩ | ⟨x,t,rfl,rfl⟩
  ·exact wpAny_pyHash_int h
  ·exact wpAny_pyHash_str h
 eqBool:=λhu hv h=>by
  rcases lH hu with ⟨i,t,rfl,rfl⟩ | ⟨x,t,rfl,rfl⟩
  ·rcases lH hv with ⟨j,u,rfl,rfl⟩ | ⟨y,u,rfl,rfl⟩
   ·rw[UZ] at h;exact wpAny_eqBool_int h
   ·rw[Yn] at h;exact SeqAt.EqAt.int_str i t y u _ _ _ _ h
  ·rcases lH hv with ⟨j,u,rfl,rfl⟩ | ⟨y,u,rfl,rfl⟩
   ·rw[R1] at h;exact SeqAt.EqAt.str_int x t j u _ _ _ _ h
   ·rw[aI1] at h;exact wpAny_eqBool_str h
 «strs»:=λk x t v h=>by
  rcases lH h with ⟨i,u,rfl,e⟩ | ⟨y,u,rfl,e⟩
  ·exact nomatch e
  ·injection e with e1 _;subst e1;cases v<;>rfl
theorem RM(prog:Program)(w:World)(i:Int)(t:Tok):(i7 prog w).is (.inl i) (.int i t)=true:=K8 i t
theorem Nb(prog:Program)(w:World)(x:Str)(t:Tok):(i7 prog w).is (.inr x) (.str x t)=true:=Xa x t
inductive V where
 |non | bl (b:Bool) | int (i:Int) | str (x:Str) | byt (b:Array UInt8) | flt (b:UInt64) | ref (a:Addr) | ty (n:String)
 deriving DecidableEq
def RelV:V->Value->Prop
 |.non,u=>u=Value.none
 |.bl b,u=>u=Value.bool b
 |.int i,u=>∃t,u=Value.int i t
 |.str x,u=>∃t,u=Value.str x t
 |.byt b,u=>∃t,u=Value.bytes b t
 |.flt b,u=>∃t,u=Value.float b t
 |.ref a,u=>u=Value.ref a
 |.ty n,u=>u=Value.type n
abbrev Vals:List V->List Value->Prop:=Paired RelV
theorem Vals.length{xs:List V}{us:List Value}(r:Vals xs us):xs.length=us.length:=Paired.length r
theorem Vals.get:∀{xs:List V} {us:List Value} {i:Nat} {x:V},Vals xs us->xs[i]? =some x->∃u,us[i]? =some u/\RelV x u
 |_,_,_,_,.nil,e=>by simp at e
 |_,_,0,_,.cons r _,e=>by simp at e;subst e;exact⟨(),r⟩
 |_,_,i+1,x,.cons _ t,e=>by
  obtain⟨u,h1,h2⟩:=Vals.get (i:=i) (x:=x) t (by simpa using e);exact⟨u,by simpa using h1,h2⟩
theorem Vals.set{x:V}{u:Value}(r:RelV x u):∀{xs:List V} {us:List Value} (i:Nat),Vals xs us->Vals (xs.set i x) (us.set i u)
 |_,_,_,.nil=>.nil
 |_,_,0,.cons _ t=>.cons r t
 |_,_,i+1,.cons q t=>.cons q (Vals.set r i t)
theorem Vals.append:∀{xs ys:List V} {us ws:List Value},Vals xs us->Vals ys ws->Vals (xs++ys) (us++ws)
 |_,_,_,_,.nil,s=>s
 |_,_,_,_,.cons r t,s=>.cons r (Vals.append t s)
theorem Vals.take:∀{xs:List V} {us:List Value} (n:Nat),Vals xs us->Vals (xs.take n) (us.take n)
 |_,_,0,_=>.nil
 |_,_,_+1,.nil=>.nil
 |_,_,n+1,.cons r t=>.cons r (Vals.take n t)
theorem Vals.drop:∀{xs:List V} {us:List Value} (n:Nat),Vals xs us->Vals (xs.drop n) (us.drop n)
 |_,_,0,r=>r
 |_,_,_+1,.nil=>.nil
 |_,_,n+1,.cons _ t=>Vals.drop n t
def RelO:Option V->Option Value->Prop
 |some v,some u=>RelV v u
 |none,none=>True
 |_,_=>False
def KV{κ:Type}:List (κ×V)->List (κ×Value)->Prop:=Paired λ(p:κ×V) (q:κ×Value)=>p.1=q.1/\RelV p.2 q.2
noncomputable def kV:fA->V
 |.inl i=>.int i
 |.inr x=>.str x
inductive HO where
 |lst (xs:List V)
 |tup (xs:List V)
 |dK (kvs:List (fA×V)) | dT (kvs:List (List fA×V))
 |set (S:Int->Bool) (n:Nat)
 |ins (C dx:Addr) (fs:List (Str×V))
 |own (x:Addr)
 |xd (fs:List (Str×V))
 |met (f x:Addr)
 |rng (lo hi:Int)
 |frz (o:Obj) (u:HO)
 |tbl (ps:Array Value)
 |ext (φ:Heap->Prop)
noncomputable abbrev Hp:=Addr->Option HO
noncomputable def upd(H:Hp)(a:Addr)(o:HO):Hp:=λb=>if b=a then some o else H b
theorem dY{H:Hp}{a:Addr}{o:HO}:upd H a o a=some o:=by unfold upd;rw[if_pos rfl]
theorem eQ{H:Hp}{a b:Addr}{o:HO}(h:b≠a):upd H a o b=H b:=by unfold upd;rw[if_neg h]
theorem aPH{H:Hp}{a b:Addr}{o u:HO}(h:H a=some o)(h':H b=some u)(d:o≠u):a≠b:=by
 intro e;subst e;rw[h] at h';exact d (bF h')
theorem gR{H:Hp}{a b:Addr}{o:HO}(h:H a=some o)(h':H b=none):a≠b:=by
 intro e;subst e;rw[h] at h';cases h'
section
variable(P:Program)(w:World)
def ObjOk(H:Hp)(h:Heap)(a:Addr):HO->Prop
 |.lst xs=>xs.length<=sizeLine/\∃(its:List Value) (n:Nat),Vals xs its/\h.get? a=some {cls:=.type "list",data:=.seq its.toArray n}
 |.tup xs=>xs.length<=sizeLine/\∃its:List Value,Vals xs its/\IsTup h a its.toArray
 |.dK kvs=>kvs.length<=sizeLine/\(a==sysModules)=false/\∃vs,KV kvs vs/\h.DictOf (i7 P w) a vs
 |.dT kvs=>kvs.length<=sizeLine/\(a==sysModules)=false/\∃xs:List (List fA×Addr×Value),
   Paired (λ(p:List fA×V) (q:List fA×Addr×Value)=>p.1=q.1/\H q.2.1=some (.tup (p.1.map kV))/\RelV p.2 q.2.2) kvs xs/\
   ∃o es ep,h.get? a=some o/\o.ExactDict/\o.data=.dict es ep/\es.toList=xs.map (entryOfKey (tupleKind (i7 P w)))/\(xs.map (·.1)).Nodup
 |.set S n=>h.SetOf (intKind P w) a S n
 |.ins C dx fs=>H dx=some (.own a)/\fs.length<=1000/\dx≠a/\h.get? a=some (PySem.W.instObj C dx)/\
   ∃mA,h.Ns1 dx mA/\(∀f,RelO (fs.lookup f) (mA f))/\PySem.Within mA (fs.map (·.1))
 |.own _=>∃o,h.get? a=some o
 |.xd fs=>∃mA,h.Ns1 a mA/\∀f,RelO (fs.lookup f) (mA f)
 |.rng lo hi=>∃t u v,h.get? a=some {cls:=.type "range",data:=.fields #[.int lo t,.int hi u,.int 1 v]}
 |.frz o u=>h.get? a=some o/\ObjOk H h a u
 |.tbl ps=>h.get? a=some {cls:=.none,data:=.fields ps}
 |.met f x=>h.get? a=some (PySem.W.methodObj (.ref f) (.ref x))
 |.ext φ=>φ h/\(∃o,h.get? a=some o)/\∀h1 h2:Heap,φ h1->(∀o,h1.get? a=some o->h2.get? a=some o)->φ h2
def HOk(H:Hp)(h:Heap):Prop:=∀a o,H a=some o->ObjOk P w H h a o
end
section
variable{P:Program}{w:World}{H H':Hp}{h h':Heap}{a:Addr}{o:HO}
theorem ObjOk.lt(x:ObjOk P w H h a o):a<h.objs.size:=by
 cases o with
 |lst xs=>obtain⟨_,_,_,_,e⟩:=x;exact a9 e
 |tup xs=>obtain⟨_,_,_,p⟩:=x;exact p.lt
 |dK kvs=>obtain⟨_,_,_,_,o,_,_,e,_⟩:=x;exact a9 e
 |dT kvs=>obtain⟨_,_,_,_,o,_,_,e,_⟩:=x;exact a9 e
 |set S n=>obtain⟨o,_,_,_,e,_⟩:=x;exact a9 e
 |ins C dx fs=>obtain⟨_,_,_,e,_⟩:=x;exact a9 e
 |own y=>obtain⟨_,e⟩:=x;exact a9 e
 |xd fs=>obtain⟨_,⟨_,_,_,e,_⟩,_⟩:=x;exact a9 e
 |rng lo hi=>obtain⟨_,_,_,e⟩:=x;exact a9 e
 |frz ob u=>obtain⟨e,_⟩:=x;exact a9 e
 |tbl ps=>exact a9 (show h.get? a=some _ from x)
 |met f y=>exact a9 (show h.get? a=some _ from x)
 |ext φ=>obtain⟨_,⟨_,e⟩,_⟩:=x;exact a9 e
theorem Paired.mapP{α β:Type}{F G:α->β->Prop}:∀{l₁:List α} {l₂:List β},Paired F l₁ l₂->(∀a b,F a b->G a b)->Paired G l₁ l₂
 |_,_,.nil,_=>.nil
 |_,_,.cons r t,f=>.cons (f _ _ r) (Paired.mapP t f)
theorem Paired.imp'{α β:Type}{F G:α->β->Prop}(f:∀a b,F a b->G a b){l₁:List α}{l₂:List β}(r:Paired F l₁ l₂):Paired G l₁ l₂:=Paired.mapP r f
theorem ObjOk.stay(x:ObjOk P w H h a o)(k:∀b u,(b=a∨H b=some (.own a))->h.get? b=some u->h'.get? b=some u)
  (ho:∀b,H b=some (.own a)->H' b=some (.own a)) (ht:∀b xs,H b=some (.tup xs)->H' b=some (.tup xs)):ObjOk P w H' h' a o:=by
 induction o with
 |lst xs=>obtain⟨z,its,n,r,e⟩:=x;exact⟨z,its,n,r,k _ _ (.inl rfl) e⟩
 |tup xs=>obtain⟨z,its,r,ob,e,c⟩:=x;exact⟨z,its,r,ob,k _ _ (.inl rfl) e,c⟩
 |dK kvs=>obtain⟨z,y,vs,r,ob,es,ep,e,c⟩:=x;exact⟨z,y,vs,r,ob,es,ep,k _ _ (.inl rfl) e,c⟩
 |dT kvs=>
  obtain⟨z,y,xs,r,ob,es,ep,e,c⟩:=x;exact⟨z,y,xs,Paired.mapP r λp q z=>⟨z.1,ht _ _ z.2.1,z.2.2⟩,ob,es,ep,k _ _ (.inl rfl) e,c⟩
 |set S n=>obtain⟨ob,es,ep,t,e,c⟩:=x;exact⟨ob,es,ep,t,k _ _ (.inl rfl) e,c⟩
 |ins C dx fs=>
  obtain⟨d,z,ne,e,mA,⟨od,es,ep,e2,c⟩,r⟩:=x;exact⟨ho _ d,z,ne,k _ _ (.inl rfl) e,mA,⟨od,es,ep,k _ _ (.inr d) e2,c⟩,r⟩
 |own y=>obtain⟨ob,e⟩:=x;exact⟨ob,k _ _ (.inl rfl) e⟩
 |xd fs=>obtain⟨mA,⟨od,es,ep,e,c⟩,r⟩:=x;exact⟨mA,⟨od,es,ep,k _ _ (.inl rfl) e,c⟩,r⟩
 |rng lo hi=>obtain⟨t,u,v,e⟩:=x;exact⟨t,u,v,k _ _ (.inl rfl) e⟩
 |frz ob u ih=>obtain⟨e,q⟩:=x;exact⟨k _ _ (.inl rfl) e,ih q⟩
 |tbl ps=>
  have e:h.get? a=some {cls:=.none,data:=.fields ps}:=x;show h'.get? a=some {cls:=.none,data:=.fields ps};exact k a _ (.inl rfl) e
 |met f y=>
  have e:h.get? a=some (PySem.W.methodObj (.ref f) (.ref y)):=x;show h'.get? a=some (PySem.W.methodObj (.ref f) (.ref y));exact k a _ (.inl rfl) e
 |ext φ=>obtain⟨p,⟨o,e⟩,st⟩:=x;exact⟨st _ _ p λo q=>k _ _ (.inl rfl) q,⟨o,k _ _ (.inl rfl) e⟩,st⟩
theorem HOk.lt(x:HOk P w H h)(e:H a=some o):a<h.objs.size:=(x a o e).lt
theorem HOk.fresh(x:HOk P w H h)(e:h.objs.size<=a):H a=none:=by
 cases q:H a with
 |none=>rfl
 |some u=>exact absurd (bC (x.lt q) e) (cI _)
theorem HOk.kept(x:HOk P w H h)(k:∀b u,h.get? b=some u->h'.get? b=some u):HOk P w H h':=λa o e=>
 (x a o e).stay (λb u _ q=>k b u q) (λ_ q=>q) λ_ _ q=>q
theorem HOk.laid(x:HOk P w H h)(k:∀b u,h.get? b=some u->h'.get? b=some u)(hp:h.objs.size<=a)(new:ObjOk P w (upd H a o) h' a o):HOk P w (upd H a o) h':=λb u e=>by
 have hn:=x.fresh hp;by_cases hb:b=a
 ·subst hb;rw[dY] at e;cases e;exact new
 ·rw[eQ hb] at e;exact (x b u e).stay (λc v _ q=>k c v q) (λc q=>by rw[eQ (gR q hn)];exact q) λc xs q=>by rw[eQ (gR q hn)];exact q
end
def Rd(H:Hp)(a:Addr)(u:HO):Prop:=H a=some u∨∃o,H a=some (.frz o u)
theorem Rd.ok{P:Program}{w:World}{H:Hp}{h:Heap}{a:Addr}{u:HO}(r:Rd H a u)(x:HOk P w H h):ObjOk P w H h a u:=by
 rcases r with r | ⟨o,r⟩
 ·exact x a u r
 ·obtain⟨_,q⟩:=x a _ r;exact q
def oA:Option HO->Prop
 |some (.lst _)=>True
 |some (.dK _)=>True
 |some (.dT _)=>True
 |some (.set _ _)=>True
 |some (.ins _ _ _)=>True
 |some (.ext _)=>True
 |_=>False
section
variable{P:Program}{w:World}{H:Hp}{h h':Heap}{x e:Addr}{o':HO}
theorem HOk.write(ok:HOk P w H h)(mu:oA (H x))(he:e=x∨H e=some (.own x))(k:∀b u,b≠e->h.get? b=some u->h'.get? b=some u)(heo:∃u,h'.get? e=some u)
  (new:ObjOk P w (upd H x o') h' x o'):HOk P w (upd H x o') h':=λb u q=>by
 have nown:∀c y,H c=some (.own y)->c≠x:=λc y r z=>by subst z;rw[r] at mu;exact mu
 have ntup:∀c xs,H c=some (.tup xs)->c≠x:=λc xs r z=>by subst z;rw[r] at mu;exact mu
 by_cases hb:b=x
 ·subst hb;rw[dY] at q;cases q;exact new
 ·rw[eQ hb] at q;by_cases hbe:b=e
  ·have q':H b=some (.own x):=by
    rcases he with z | z
    ·exact absurd (hbe.trans z) hb
    ·rw[hbe];exact z
   rw[q] at q';cases q';obtain⟨v,hv⟩:=heo;exact⟨v,by rw[hbe];exact hv⟩
  ·refine (ok b u q).stay (λc v hc r=>k c v ?_ r) (λc r=>by rw[eQ (nown c b r)];exact r) λc xs r=>by rw[eQ (ntup c xs r)];exact r
   rcases hc with rfl | hc
   ·exact hbe
   ·rintro rfl;rcases he with z | z
    ·exact nown c b hc z
    ·rw[hc] at z;cases z;exact hb rfl
end
structure Un(fs ex:List Addr)(H H':Hp)(h h':Heap):Prop where
 keep:∀b o,h.get? b=some o->H b=none->b∉fs->b∉ex->h'.get? b=some o
 slot:∀b o,h.get? b=some o->H b=none->b∈fs->b∉ex->∃sl,h'.get? b=some {o with slots:=sl}
 free:∀b o,h.get? b=some o->H b=none->b∉ex->H' b=none
 there:∀b o,h.get? b=some o->b∉ex->∃o',h'.get? b=some o'
 tups:∀b xs,H b=some (.tup xs)->H' b=some (.tup xs)
 frzs:∀b o u,H b=some (.frz o u)->H' b=some (.frz o u)
 tbls:∀b ps,H b=some (.tbl ps)->∃more,H' b=some (.tbl (ps++more))
section
variable{fs fs' ex ex':List Addr}{H H1 H2:Hp}{h h1 h2 h':Heap}{a x e:Addr}{o:HO}
theorem Un.any(u:Un fs ex H H1 h h1){b:Addr}{ob:Obj}(q:h.get? b=some ob)(n:H b=none)(hx:b∉ex):∃sl,h1.get? b=some {ob with slots:=sl}:=by
 by_cases hb:b∈fs
 ·exact u.slot b ob q n hb hx
 ·exact⟨ob.slots,u.keep b ob q n hb hx⟩
theorem Un.kept(k:∀b u,h.get? b=some u->h'.get? b=some u):Un fs ex H H h h':=
 ⟨λb ob q _ _ _=>k b ob q,λb ob q _ _ _=>⟨ob.slots,k b ob q⟩,λ_ _ _ n _=>n,λb ob q _=>⟨ob,k b ob q⟩,λ_ _ q=>q,λ_ _ _ q=>q,λ_ ps q=>⟨#[],by rw[q];simp⟩⟩
theorem Un.refl:Un fs ex H H h h:=Un.kept λ_ _ q=>q
theorem Un.laid(k:∀b u,h.get? b=some u->h'.get? b=some u)(hp:h.objs.size<=a)(hn:H a=none):Un fs ex H (upd H a o) h h' where
 keep:=λb u q _ _ _=>k b u q
 slot:=λb u q _ _ _=>⟨u.slots,k b u q⟩
 free:=λb u q n _=>by rw[eQ (bE (bC (a9 q) hp))];exact n
 there:=λb u q _=>⟨u,k b u q⟩
 tups:=λb xs q=>by rw[eQ (gR q hn)];exact q
 frzs:=λb u xs q=>by rw[eQ (gR q hn)];exact q
 tbls:=λb ps q=>⟨#[],by rw[eQ (gR q hn),q];simp⟩
theorem Un.write(mu:oA (H x))(he:e=x∨H e=some (.own x))(k:∀b u,b≠e->h.get? b=some u->h'.get? b=some u)(heo:∃u,h'.get? e=some u):Un fs ex H (upd H x o) h h':=by
 have hx:∀b,H b=none->b≠x:=λb n z=>by subst z;rw[n] at mu;exact mu
 have hb:∀b,H b=none->b≠e:=λb n z=>by
  subst z;rcases he with r | r
  ·exact hx b n r
  ·rw[n] at r;cases r
 have hm:∀b u,H b=some u->¬oA (some u)->b≠x:=λb u q nm z=>by subst z;rw[q] at mu;exact nm mu
 refine⟨λb u q n _ _=>k b u (hb b n) q,λb u q n _ _=>⟨u.slots,k b u (hb b n) q⟩,λb u q n _=>by rw[eQ (hx b n)];exact n,λb u q _=>?_,
  λb xs q=>by rw[eQ (hm b _ q λz=>z)];exact q,λb u xs q=>by rw[eQ (hm b _ q λz=>z)];exact q,λb ps q=>⟨#[],by rw[eQ (hm b _ q λz=>z),q];simp⟩⟩
 by_cases hbe:b=e
 ·subst hbe;exact heo
 ·exact⟨u,k b u hbe q⟩
end
noncomputable def jU(h:Heap)(H:Hp):List Addr:=(List.range h.objs.size).filter λa=>(H a).isSome
noncomputable def lT(h:Heap)(H:Hp):Heap:=PySem.W.hideAll h (jU h H)
theorem az3(h:Heap)(H:Hp):(lT h H).objs.size=h.objs.size:=PySem.W.hideAll_size _ _
theorem Xo{h:Heap}{H:Hp}{b:Addr}{o:Obj}(e:h.get? b=some o)(n:H b=none):(lT h H).get? b=some o:=
 PySem.W.hideAll_get _ e λhm=>by
  have q:(H b).isSome=true:=(List.mem_filter.mp hm).2;rw[n] at q;simp at q
theorem aEV{h:Heap}{H:Hp}{b:Addr}{o:Obj}(e:(lT h H).get? b=some o):h.get? b=some o/\H b=none:=by
 have e':h.get? b=some o:=PySem.W.of_hideAll (jU h H) e;refine⟨e',?_⟩;cases q:H b with
 |none=>rfl
 |some x=>
  have hm:b∈jU h H:=List.mem_filter.mpr ⟨cJ.mpr (a9 e'),by simp[q]⟩;have z:(lT h H).get? b=none:=PySem.W.hideAll_none (jU h H) hm;rw[z] at e;cases e
structure Mod(K:FG)(mg:Str->Option Value)(base:Heap):Prop where
 kin:K.In base
 glob:base.Ns mainGlobals mg
 blt:∃mb,base.Ns builtinsNs mb/\∀x:Str,x≠"__name__"->mb x=bootBuiltins x
 nolimit:base.NoLimit
structure Cx where
 prog:Program
 w:World
 K:FG
 mg:Str->Option Value
 base:Heap
 A:Around
 N:List Str
 s₀:Shared
 H₀:Hp
 env:Env
 outer:List Env
 stack:List Env
 ex:List Addr
 fn:Str->Bool
 calm:Bool
 pn:List (Addr×Obj)
 xe:Value->Shared->Prop
noncomputable def j1(l:List Env):List Addr:=l.filterMap (·.frame)
noncomputable abbrev Cx.fs(X:Cx):List Addr:=j1 X.outer
def sg(sc:Scope)(x:Str):Prop:=sc.names.lookup x=some .local∨sc.names.lookup x=some .cell∨sc.names.lookup x=some .free
def n4(sc:Scope)(x:Str):Prop:=sc.names.lookup x=some .local∨sc.names.lookup x=some .cell
def vJ(env:Env)(h:Heap)(m:Str->Option Value)(x:Str)(u:Value):Prop:=
 (env.kindOf x=some .local/\m x=some u)∨((env.kindOf x=some .cell∨env.kindOf x=some .free)/\∃c,env.cells.lookup x=some c/\h.IsCell c (some u))
structure Cx.Ok(X:Cx):Prop where
 mod:Mod X.K X.mg X.base
 kind:X.env.scope.kind=.function
 glob:X.env.globals=mainGlobals
 blt:X.env.builtins=builtinsNs
 above:X.s₀.heap.objs.size<=X.env.locals
 inj:∀x y c,X.env.cells.lookup x=some c->X.env.cells.lookup y=some c->x=y
 has:∀x,(X.env.kindOf x=some .cell∨X.env.kindOf x=some .free)->∃c,X.env.cells.lookup x=some c
 cab:∀x c,X.fn x=true->X.env.cells.lookup x=some c->X.s₀.heap.objs.size<=c
 hd:X.calm=true->X.A.handled=none
 frames:X.A.frames=some X.stack
 stk:X.stack=X.outer∨(X.stack=X.env::X.outer/\X.env.frame=some X.env.locals)
 exf:∀b∈X.ex,b≠X.env.locals/\∀x c,X.env.cells.lookup x=some c->c≠b
 bs:∀b o,X.base.get? b=some o->X.s₀.heap.get? b=some o/\X.H₀ b=none
 bsz:X.base.objs.size<=X.s₀.heap.objs.size
 noex:∀b o,X.base.get? b=some o->b∉X.ex
 exfs:∀b∈X.ex,b∉X.fs
 funs:X.s₀.heap.FunFrames X.base X.outer
 frf:∀b∈X.fs,X.H₀ b=none
structure Inv(X:Cx)(pins:List (Addr×Obj))(σ:List (Option V))(H:Hp)(s:Shared):Prop where
 ok:X.Ok
 os:s.os=X.s₀.os
 bare:AllBare s.gens
 base:Un X.fs X.ex X.H₀ H X.s₀.heap s.heap
 loc:∃m,s.heap.Ns X.env.locals m/\∀(i:Nat) (x:Str) (v:V),X.N[i]? =some x->σ[i]? =some (some v)->sg X.env.scope x->∃u,RelV v u/\vJ X.env s.heap m x u
 cell:∀x c,X.env.cells.lookup x=some c->∃v,s.heap.IsCell c v
 free:H X.env.locals=none
 freeC:∀x c,X.env.cells.lookup x=some c->H c=none
 pin:∀p∈X.pn++pins,s.heap.get? p.1=some p.2/\H p.1=none/\p.1≠X.env.locals/\p.1∉X.fs/\∀v,p.2.data≠ .cell v
 hok:HOk X.prog X.w H s.heap
 len:σ.length=X.N.length
section
variable{X:Cx}{pins:List (Addr×Obj)}{σ:List (Option V)}{H H':Hp}{s:Shared}{h':Heap}
theorem Cx.Ok.nofr(ok:X.Ok){b:Addr}{o:Obj}(e:X.base.get? b=some o):b∉X.fs:=λhb=>by
 have:=(ok.funs.mem hb).1;rw[e] at this;cases this
theorem Inv.bs(I:Inv X pins σ H s):∀b o,X.base.get? b=some o->s.heap.get? b=some o/\H b=none:=λb o e=>
 ⟨I.base.keep b o (I.ok.bs b o e).1 (I.ok.bs b o e).2 (I.ok.nofr e) (I.ok.noex b o e),I.base.free b o (I.ok.bs b o e).1 (I.ok.bs b o e).2 (I.ok.noex b o e)⟩
theorem Inv.bk(I:Inv X pins σ H s):∀b o,X.base.get? b=some o->s.heap.get? b=some o:=λb o e=>(I.bs b o e).1
theorem Inv.mod(I:Inv X pins σ H s):Mod X.K X.mg X.base:=I.ok.mod
theorem Inv.kIn(I:Inv X pins σ H s):X.K.In s.heap:=I.ok.mod.kin.keeps I.bk
theorem Inv.nolimit(I:Inv X pins σ H s):s.heap.NoLimit:=I.ok.mod.nolimit.keeps I.bk
theorem Inv.lt(I:Inv X pins σ H s):X.env.locals<s.heap.objs.size:=let ⟨_,hn,_⟩:=I.loc;hn.lt
theorem Inv.sz(I:Inv X pins σ H s):X.s₀.heap.objs.size<=s.heap.objs.size:=bR I.ok.above (Nat.le_of_lt I.lt)
theorem Inv.nofs(I:Inv X pins σ H s){a:Addr}(h:s.heap.objs.size<=a):a∉X.fs:=λhb=>by
 obtain⟨_,o,ho,_⟩:=I.ok.funs.mem hb;exact absurd (bC (a9 ho) (bR I.sz h)) (cI _)
theorem Inv.cne(I:Inv X pins σ H s):∀x c,X.env.cells.lookup x=some c->c≠X.env.locals:=λx c e z=>by
 obtain⟨v,o,ho,hd⟩:=I.cell x c e;obtain⟨m,⟨o',es,ep,ho',hd',_⟩,_⟩:=I.loc;rw[z,ho'] at ho;cases ho;rw[hd'] at hd;cases hd
theorem Inv.funs(I:Inv X pins σ H s):s.heap.FunFrames X.base X.outer:=by
 have all:∀(l:List Env),(∀b∈j1 l,b∈X.fs)->X.s₀.heap.FunFrames X.base l->s.heap.FunFrames X.base l:=by
  intro l;induction l with
  |nil=>intro _ _;trivial
  |cons env r ih=>
   intro hs hl;obtain⟨hk,⟨L,o,hf,hn,ho,hd⟩,hr⟩:=hl;have hL:L∈X.fs:=hs L (by unfold j1;rw[cS,hf];exact bS);obtain⟨sl,e⟩:=I.base.slot L o ho (I.ok.frf L hL) hL λz=>I.ok.exfs L z hL;exact⟨hk,⟨L,_,hf,hn,e,hd⟩,ih (λb hb=>hs b (by unfold j1;rw[cS,hf];exact bP _ hb)) hr⟩
 exact all X.outer (λ_ hb=>hb) I.ok.funs
theorem Inv.stack(I:Inv X pins σ H s):s.heap.FunFrames X.base X.stack:=by
 rcases I.ok.stk with e | ⟨e,hf⟩
 ·rw[e];exact I.funs
 ·rw[e];obtain⟨m,hn,_⟩:=I.loc;refine .cons (by rw[I.ok.kind];decide) hf hn ?_ I.funs;exact Heap.get?_none_of_le (bR I.ok.bsz I.ok.above)
theorem Inv.stkSub(I:Inv X pins σ H s):∀b∈j1 X.stack,b∈X.env.locals::X.fs:=λb hb=>by
 rcases I.ok.stk with e | ⟨e,hf⟩
 ·rw[e] at hb;exact bP _ hb
 ·rw[e] at hb;unfold j1 at hb;rw[cS,hf] at hb;exact hb
theorem Inv.stkFree(I:Inv X pins σ H s):∀b∈j1 X.stack,H b=none:=λb hb=>by
 rcases bA.mp (I.stkSub b hb) with e | hb
 ·rw[e];exact I.free
 ·obtain⟨_,o,ho,_⟩:=I.ok.funs.mem hb;exact I.base.free b o ho (I.ok.frf b hb) λz=>I.ok.exfs b z hb
theorem Inv.step{g':Array GenState}{t':Nat}{d':Drawn}{ch:List Addr}(I:Inv X pins σ H s)
  (hch:∀b∈ch,(b∈X.ex∨X.s₀.heap.objs.size<=b)/\b≠X.env.locals/\(∀x c,X.env.cells.lookup x=some c->c≠b)/\∀p∈X.pn++pins,p.1≠b)
  (keep:∀b o,b≠X.env.locals->b∉X.fs->b∉ch->s.heap.get? b=some o->H b=none->h'.get? b=some o)
  (slot:∀b o,b≠X.env.locals->b∈X.fs->b∉ch->s.heap.get? b=some o->H b=none->∃sl,h'.get? b=some {o with slots:=sl}) (free:∀b o,b∉ch->s.heap.get? b=some o->H b=none->H' b=none)
  (there:∀b o,b∉ch->s.heap.get? b=some o->∃o',h'.get? b=some o')
  (tups:∀b xs,H b=some (.tup xs)->H' b=some (.tup xs)) (frzs:∀b o u,H b=some (.frz o u)->H' b=some (.frz o u)) (tbls:∀b ps,H b=some (.tbl ps)->∃more,H' b=some (.tbl (ps++more)))
  (ns:∀m,s.heap.Ns X.env.locals m->h'.Ns X.env.locals m) (hok:HOk X.prog X.w H' h') (hg:AllBare g'):
  Inv X pins σ H' {s with heap:=h',gens:=g',drawn:=d',toks:=t'}:=by
 have neL:∀b o,X.s₀.heap.get? b=some o->b≠X.env.locals:=λb o e=>bE (bC (a9 e) I.ok.above);have neC:∀b o,X.s₀.heap.get? b=some o->b∉X.ex->b∉ch:=λb o e hx hb=>by
  rcases (hch b hb).1 with z | z
  ·exact hx z
  ·exact absurd (bC (a9 e) z) (cI _)
 have cellK:∀x c,X.env.cells.lookup x=some c->∀v,s.heap.IsCell c v->h'.IsCell c v:=λx c e v ⟨o,ho,hd⟩=>by
  have nch:c∉ch:=λz=>(hch c z).2.2.1 x c e rfl;by_cases hc:c∈X.fs
  ·obtain⟨sl,q⟩:=slot c o (I.cne x c e) hc nch ho (I.freeC x c e);exact⟨_,q,hd⟩
  ·exact⟨o,keep c o (I.cne x c e) hc nch ho (I.freeC x c e),hd⟩
 refine⟨I.ok,I.os,hg,⟨λb o e n hb hx=>?_,λb o e n hb hx=>?_,λb o e n hx=>?_,λb o e hx=>?_,λb xs e=>tups b xs (I.base.tups b xs e),λb o xs e=>frzs b o xs (I.base.frzs b o xs e),λb ps e=>?_⟩,?_,λx c e=>?_,?_,λx c e=>?_,λp hp=>?_,hok,I.len⟩
 ·exact keep b o (neL b o e) hb (neC b o e hx) (I.base.keep b o e n hb hx) (I.base.free b o e n hx)
 ·obtain⟨sl,e1⟩:=I.base.slot b o e n hb hx;obtain⟨sl',e2⟩:=slot b _ (neL b o e) hb (neC b o e hx) e1 (I.base.free b o e n hx);exact⟨sl',e2⟩
 ·obtain⟨o',e1⟩:=I.base.there b o e hx;exact free b o' (neC b o e hx) e1 (I.base.free b o e n hx)
 ·obtain⟨o',e1⟩:=I.base.there b o e hx;exact there b o' (neC b o e hx) e1
 ·obtain⟨m1,e1⟩:=I.base.tbls b ps e;obtain⟨m2,e2⟩:=tbls b _ e1;exact⟨m1++m2,by rw[e2,Array.append_assoc]⟩
 ·obtain⟨m,hn,hl⟩:=I.loc;refine⟨m,ns m hn,λi x v e1 e2 e3=>?_⟩;obtain⟨u,r,l⟩:=hl i x v e1 e2 e3;refine⟨u,r,?_⟩;rcases l with l | ⟨k,c,e,z⟩
  ·exact .inl l
  ·exact .inr ⟨k,c,e,cellK x c e _ z⟩
 ·obtain⟨v,z⟩:=I.cell x c e;exact⟨v,cellK x c e v z⟩
 ·obtain⟨m,⟨o,_,_,ho,_⟩,_⟩:=I.loc;exact free _ o (λz=>(hch _ z).2.1 rfl) ho I.free
 ·obtain⟨v,o,ho,hd⟩:=I.cell x c e;exact free c o (λz=>(hch c z).2.2.1 x c e rfl) ho (I.freeC x c e)
 ·obtain⟨e,n,ne,nf,d⟩:=I.pin p hp;have nch:p.1∉ch:=λz=>(hch p.1 z).2.2.2 p hp rfl;exact⟨keep p.1 p.2 ne nf nch e n,free p.1 p.2 nch e n,ne,nf,d⟩
theorem Inv.un{t':Nat}(I:Inv X pins σ H s)(u:Un X.fs [] H H' s.heap h')(hok:HOk X.prog X.w H' h'):Inv X pins σ H' {s with heap:=h',toks:=t'}:=by
 obtain⟨m,⟨o,es,ep,ho,r⟩,_⟩:=id I.loc;obtain⟨sl,hL⟩:=u.any ho I.free (by simp);exact I.step (g':=s.gens) (d':=s.drawn) (ch:=[]) (λ_ z=>nomatch z) (λb o _ hb _ e n=>u.keep b o e n hb (by simp)) (λb o _ hb _ e n=>u.slot b o e n hb (by simp)) (λb o _ e n=>u.free b o e n (by simp)) (λb o _ e=>u.there b o e (by simp)) u.tups u.frzs u.tbls (λm' hm=>by
  obtain⟨o',es',ep',ho',r'⟩:=hm;rw[ho] at ho';cases ho';exact⟨_,es',ep',hL,r'⟩) hok I.bare
theorem Inv.call{g':Array GenState}{t':Nat}{d':Drawn}{ch:List Addr}(I:Inv X pins σ H s)(u:Un (j1 X.stack) ch H H' s.heap h')(hok:HOk X.prog X.w H' h')(hg:AllBare g')
  (hch:∀b∈ch,(b∈X.ex∨X.s₀.heap.objs.size<=b)/\b≠X.env.locals/\(∀x c,X.env.cells.lookup x=some c->c≠b)/\∀p∈X.pn++pins,p.1≠b):
  Inv X pins σ H' {s with heap:=h',gens:=g',drawn:=d',toks:=t'}:=by
 obtain⟨m,⟨o,es,ep,ho,r⟩,_⟩:=id I.loc;obtain⟨sl,hL⟩:=u.any ho I.free λz=>(hch _ z).2.1 rfl;exact I.step (ch:=ch) hch (λb o hL hb hc e n=>u.keep b o e n (λz=>(bA.mp (I.stkSub b z)).elim hL hb) hc) (λb o _ _ hc e n=>u.any e n hc) (λb o hc e n=>u.free b o e n hc) (λb o hc e=>u.there b o e hc) u.tups u.frzs u.tbls (λm' hm=>by
  obtain⟨o',es',ep',ho',r'⟩:=hm;rw[ho] at ho';cases ho';exact⟨_,es',ep',hL,r'⟩) hok hg
theorem Inv.turned{t':Nat}{it:Addr}(I:Inv X pins σ H s)(k:∀b o,b≠it->s.heap.get? b=some o->h'.get? b=some o)(hn:H it=none)(hL:it≠X.env.locals)
  (h1:it∈X.ex∨X.s₀.heap.objs.size<=it) (h2:∀x c,X.env.cells.lookup x=some c->c≠it) (h3:∀p∈X.pn++pins,p.1≠it):Inv X pins σ H {s with heap:=h',toks:=t'}:=by
 have nit:∀b u,H b=some u->b≠it:=λb u e z=>by rw[z,hn] at e;cases e
 refine I.step (g':=s.gens) (d':=s.drawn) (ch:=[it]) (λb hb=>?_) (λb o _ _ hc e _=>k b o (λz=>hc (by simp[z])) e) (λb o _ _ hc e _=>⟨o.slots,k b o (λz=>hc (by simp[z])) e⟩) (λ_ _ _ _ n=>n)
  (λb o hc e=>⟨o,k b o (λz=>hc (by simp[z])) e⟩) (λ_ _ e=>e) (λ_ _ _ e=>e) (λb ps e=>⟨#[],by rw[e];simp⟩) (λm hm=>?_) (λb u e=>?_) I.bare
 ·have e:b=it:=by simpa using hb
  subst e;exact⟨h1,hL,h2,h3⟩
 ·obtain⟨o,es,ep,ho,r⟩:=hm;exact⟨o,es,ep,k _ o (Ne.symm hL) ho,r⟩
 ·refine (I.hok b u e).stay (λc v hc q=>k c v ?_ q) (λ_ q=>q) λ_ _ q=>q;rcases hc with z | z
  ·rw[z];exact nit b u e
  ·exact nit c _ z
theorem Inv.tok(I:Inv X pins σ H s)(t:Nat):Inv X pins σ H {s with toks:=t}:=I.un (h':=s.heap) (t':=t) Un.refl I.hok
theorem Inv.kept{t':Nat}(I:Inv X pins σ H s)(k:∀b u,s.heap.get? b=some u->h'.get? b=some u):Inv X pins σ H {s with heap:=h',toks:=t'}:=I.un (Un.kept k) (I.hok.kept k)
theorem Inv.laid{a:Addr}{o:HO}{t':Nat}(I:Inv X pins σ H s)(k:∀b u,s.heap.get? b=some u->h'.get? b=some u)(hp:s.heap.objs.size<=a)(new:ObjOk X.prog X.w (upd H a o) h' a o):
  Inv X pins σ (upd H a o) {s with heap:=h',toks:=t'}:=I.un (Un.laid k hp (I.hok.fresh hp)) (I.hok.laid k hp new)
theorem Inv.write{x e:Addr}{o:HO}{t':Nat}(I:Inv X pins σ H s)(mu:oA (H x))(he:e=x∨H e=some (.own x))(k:∀b u,b≠e->s.heap.get? b=some u->h'.get? b=some u)(heo:∃u,h'.get? e=some u)
  (new:ObjOk X.prog X.w (upd H x o) h' x o):Inv X pins σ (upd H x o) {s with heap:=h',toks:=t'}:=I.un (Un.write mu he k heo) (I.hok.write mu he k heo new)
theorem Inv.pins_of{pins':List (Addr×Obj)}(I:Inv X pins σ H s)(h:∀p∈pins',s.heap.get? p.1=some p.2/\H p.1=none/\p.1≠X.env.locals/\p.1∉X.fs/\∀v,p.2.data≠ .cell v):Inv X pins' σ H s:=
 ⟨I.ok,I.os,I.bare,I.base,I.loc,I.cell,I.free,I.freeC,λp hp=>(b9.mp hp).elim (λz=>I.pin p (List.mem_append_left _ z)) (h p),I.hok,I.len⟩
theorem GG{N:List Str}(hN:N.Nodup){i j:Nat}{x:Str}(a:N[i]? =some x)(b:N[j]? =some x):i=j:=by
 obtain⟨h1,e1⟩:=cT.mp a;obtain⟨h2,e2⟩:=cT.mp b;exact (List.getElem_inj hN).mp (e1.trans e2.symm)
theorem Ef{M:Model}{A:Around}{E:Value->Shared->Prop}{i:Nat}{x:Str}{v:V}{u:Value}{Q:Unit->Shared->Prop}(I:Inv X pins σ H s)(hN:X.N.Nodup)(hi:X.N[i]? =some x)(hx:n4 X.env.scope x)(r:RelV v u)
  (h:∀s',Inv X pins (σ.set i (some v)) H s'->(∃a,Heap.SameBut a s.heap s'.heap/\(a=X.env.locals∨X.env.cells.lookup x=some a))->Q () s') (hf:X.fn x=true∨X.env.scope.names.lookup x=some .local:=by first | exact .inl rfl | exact .inr rfl | assumption):wpAny M A (storeName X.env x u) Q E s:=by
 obtain⟨m,hn,hl⟩:=id I.loc;have hcls:(X.env.scope.kind== .class||(X.env.scope.kind== .module&&X.env.locals !=X.env.globals))=false:=by rw[I.ok.kind];rfl
 have hiσ:i<σ.length:=by rw[I.len];exact (cT.mp hi).1
 have cne:=I.cne;have tracked:∀{a:Addr} {h':Heap},(∃o,s.heap.get? a=some o/\H a=none)->Heap.SameBut a s.heap h'->HOk X.prog X.w H h':=λ{a h'} ha hs b ob e=>by
  obtain⟨_,_,hfree⟩:=ha;refine (I.hok b ob e).stay (λc w' hc q=>(hs.2 c ?_).trans q) (λ_ q=>q) λ_ _ q=>q;rintro rfl;rcases hc with rfl | hc
  ·rw[hfree] at e;cases e
  ·rw[hfree] at hc;cases hc
 rcases hx with hk | hk
 ·refine wpAny_storeName_local hk hn (λh' hn' hs=>?_) hcls;obtain⟨oL,_,_,hoL,_⟩:=id hn;refine h _ ⟨I.ok,I.os,I.bare,⟨λb o e n hb hx=>?_,λb o e n hb hx=>?_,I.base.free,λb o e hx=>?_,I.base.tups,I.base.frzs,I.base.tbls⟩,⟨_,hn',λj y v' e1 e2 e3=>?_⟩,λy c e=>?_,I.free,I.freeC,λp hp=>?_,tracked ⟨oL,hoL,I.free⟩ hs,by simpa using I.len⟩ ⟨_,hs,.inl rfl⟩
  ·exact (hs.2 b (bE (bC (a9 e) I.ok.above))).trans (I.base.keep b o e n hb hx)
  ·obtain⟨sl,e1⟩:=I.base.slot b o e n hb hx;exact⟨sl,(hs.2 b (bE (bC (a9 e) I.ok.above))).trans e1⟩
  ·obtain⟨o',e1⟩:=I.base.there b o e hx;exact⟨o',(hs.2 b (bE (bC (a9 e) I.ok.above))).trans e1⟩
  ·by_cases hj:j=i
   ·subst hj;rw[hi] at e1;cases e1;rw[List.getElem?_set_self hiσ] at e2;cases e2;exact⟨u,r,.inl ⟨hk,by simp⟩⟩
   ·rw[List.getElem?_set_ne (Ne.symm hj)] at e2;obtain⟨u',r',q⟩:=hl j y v' e1 e2 e3;refine⟨u',r',?_⟩;rcases q with ⟨k,e⟩ | ⟨k,c,e,z⟩
    ·refine .inl ⟨k,?_⟩;have:y≠x:=λe=>hj (GG hN e1 (e▸hi));simp[this,e]
    ·exact .inr ⟨k,c,e,z.sameBut hs (cne y c e)⟩
  ·obtain⟨w',z⟩:=I.cell y c e;exact⟨w',z.sameBut hs (cne y c e)⟩
  ·obtain⟨e,n,ne,nf,d⟩:=I.pin p hp;exact⟨(hs.2 p.1 ne).trans e,n,ne,nf,d⟩
 ·have hfn:X.fn x=true:=by
   rcases hf with z | z
   ·exact z
   ·rw[z] at hk;cases hk
  obtain⟨c,hc⟩:=I.ok.has x (.inl hk);obtain⟨w',z⟩:=I.cell x c hc;refine wpAny_storeName_cell I.ok.kind hk hc z (λh' hc' hs=>?_);obtain⟨oc,hoc,hocd⟩:=id z;refine h {s with heap:=h'} ⟨I.ok,I.os,I.bare,⟨λb o e n hb hx=>?_,λb o e n hb hx=>?_,I.base.free,λb o e hx=>?_,I.base.tups,I.base.frzs,I.base.tbls⟩,⟨m,hn.sameBut hs (Ne.symm (cne x c hc)),λj y v' e1 e2 e3=>?_⟩,λy c' e=>?_,I.free,I.freeC,λp hp=>?_,tracked ⟨oc,hoc,I.freeC x c hc⟩ hs,by simpa using I.len⟩ ⟨c,hs,.inr hc⟩
  ·exact (hs.2 b (bE (bC (a9 e) (I.ok.cab x c hfn hc)))).trans (I.base.keep b o e n hb hx)
  ·obtain⟨sl,e1⟩:=I.base.slot b o e n hb hx;exact⟨sl,(hs.2 b (bE (bC (a9 e) (I.ok.cab x c hfn hc)))).trans e1⟩
  ·obtain⟨o',e1⟩:=I.base.there b o e hx;exact⟨o',(hs.2 b (bE (bC (a9 e) (I.ok.cab x c hfn hc)))).trans e1⟩
  ·by_cases hj:j=i
   ·subst hj;rw[hi] at e1;cases e1;rw[List.getElem?_set_self hiσ] at e2;cases e2;exact⟨u,r,.inr ⟨.inl hk,c,hc,hc'⟩⟩
   ·rw[List.getElem?_set_ne (Ne.symm hj)] at e2;obtain⟨u',r',q⟩:=hl j y v' e1 e2 e3;refine⟨u',r',?_⟩;rcases q with q | ⟨k,c',e,z'⟩
    ·exact .inl q
    ·refine .inr ⟨k,c',e,z'.sameBut hs ?_⟩;rintro rfl;exact hj (GG hN e1 (I.ok.inj _ _ _ e hc▸hi))
  ·by_cases hcc:c'=c
   ·subst hcc;exact⟨_,hc'⟩
   ·obtain⟨w2,z2⟩:=I.cell y c' e;exact⟨w2,z2.sameBut hs hcc⟩
  ·obtain⟨e,n,ne,nf,d⟩:=I.pin p hp;refine⟨(hs.2 p.1 ?_).trans e,n,ne,nf,d⟩;intro q;rw[q,hoc] at e;have q':oc=p.2:=bF e;exact d w' (by rw[←q'];exact hocd)
theorem JI{M:Model}{A:Around}{E:Value->Shared->Prop}{i:Nat}{x:Str}{v:V}{u:Value}{Q:Unit->Shared->Prop}(I:Inv X pins σ H s)(hN:X.N.Nodup)(hi:X.N[i]? =some x)(hx:n4 X.env.scope x)(r:RelV v u)
  (h:∀s',Inv X pins (σ.set i (some v)) H s'->Q () s') (hf:X.fn x=true∨X.env.scope.names.lookup x=some .local:=by first | exact .inl rfl | exact .inr rfl | assumption):wpAny M A (storeName X.env x u) Q E s:=
 Ef I hN hi hx r (λs' I' _=>h s' I') hf
theorem Inv.call'{s':Shared}{ch:List Addr}(I:Inv X pins σ H s)(ho:s'.os=s.os)(u:Un (j1 X.stack) ch H H' s.heap s'.heap)(hok:HOk X.prog X.w H' s'.heap)(hg:AllBare s'.gens)
  (hch:∀b∈ch,(b∈X.ex∨X.s₀.heap.objs.size<=b)/\b≠X.env.locals/\(∀x c,X.env.cells.lookup x=some c->c≠b)/\∀p∈X.pn++pins,p.1≠b):Inv X pins σ H' s':=by
 obtain⟨h',g',d',t',o'⟩:=s';have e:o'=s.os:=ho;subst e;exact I.call (g':=g') (t':=t') (d':=d') u hok hg hch
end
noncomputable abbrev XK:=Value->Option Addr->Hp->Prop
noncomputable abbrev St:=List (Option V)
noncomputable abbrev VK:=V->Hp->Prop
noncomputable abbrev TE:=St->Hp->VK->Prop
noncomputable abbrev TT:=St->Hp->(Bool->Hp->Prop)->Prop
noncomputable abbrev TA:=St->Hp->(List V->Hp->Prop)->Prop
structure iw where
 nx:St->Hp->Prop
 rt:VK
 bk:St->Hp->Prop:=λ_ _=>False
 ct:St->Hp->Prop:=λ_ _=>False
noncomputable abbrev TS:=iw->St->Hp->Prop
def EP(X:Cx)(pins:List (Addr×Obj))(σ:St)(Q:VK)(u:Value)(s':Shared):Prop:=∃v H',Inv X pins σ H' s'/\RelV v u/\Q v H'
def TP(X:Cx)(pins:List (Addr×Obj))(σ:St)(Q:Bool->Hp->Prop)(b:Bool)(s':Shared):Prop:=∃H',Inv X pins σ H' s'/\Q b H'
def AP(X:Cx)(pins:List (Addr×Obj))(σ:St)(Q:List V->Hp->Prop)(us:List Value)(s':Shared):Prop:=∃vs H',Inv X pins σ H' s'/\Vals vs us/\Q vs H'
def SP(X:Cx)(pins:List (Addr×Obj))(D:iw)(f:Flow)(s':Shared):Prop:=
 match f with
 |.next=>∃σ' H',Inv X pins σ' H' s'/\D.nx σ' H'
 |.brk=>∃σ' H',Inv X pins σ' H' s'/\D.bk σ' H'
 |.cont=>∃σ' H',Inv X pins σ' H' s'/\D.ct σ' H'
 |.ret u=>∃v σ' H',Inv X pins σ' H' s'/\RelV v u/\D.rt v H'
def PE(X:Cx)(e:Expr)(t:TE):Prop:=
 ∀(pins:List (Addr×Obj)) (s:Shared) (σ:St) (H:Hp) (Q:VK),Inv X pins σ H s->t σ H Q->wpAny (model X.prog X.w) X.A (eval e X.env) (EP X pins σ Q) X.xe s
def PT(X:Cx)(e:Expr)(t:TT):Prop:=
 ∀(pins:List (Addr×Obj)) (s:Shared) (σ:St) (H:Hp) (Q:Bool->Hp->Prop),Inv X pins σ H s->t σ H Q->wpAny (model X.prog X.w) X.A (isTrue e X.env (eval e X.env)) (TP X pins σ Q) X.xe s
def PW(X:Cx)(e:Expr)(t:TT):Prop:=
 ∀(whole:Sem Value) (pins:List (Addr×Obj)) (s:Shared) (σ:St) (H:Hp) (Q:Bool->Hp->Prop),Inv X pins σ H s->t σ H Q->wpAny (model X.prog X.w) X.A (isTrue e X.env whole) (TP X pins σ Q) X.xe s
theorem PW.pt{X:Cx}{e:Expr}{t:TT}(h:PW X e t):PT X e t:=h _
def PA(X:Cx)(es:List Expr)(t:TA):Prop:=
 ∀(pos:Pos) (pins:List (Addr×Obj)) (s:Shared) (σ:St) (H:Hp) (Q:List V->Hp->Prop),Inv X pins σ H s->t σ H Q->wpAny (model X.prog X.w) X.A (spliced (backTo pos (starEach es X.env))) (AP X pins σ Q) X.xe s
def PS(X:Cx)(st:Stmt)(t:TS):Prop:=
 ∀(pins:List (Addr×Obj)) (s:Shared) (σ:St) (H:Hp) (D:iw),Inv X pins σ H s->t D σ H->wpAny (model X.prog X.w) X.A (exec st X.env) (SP X pins D) X.xe s
def PSs(X:Cx)(st:List Stmt)(t:TS):Prop:=
 ∀(pins:List (Addr×Obj)) (s:Shared) (σ:St) (H:Hp) (D:iw),Inv X pins σ H s->t D σ H->wpAny (model X.prog X.w) X.A (execs st X.env) (SP X pins D) X.xe s
theorem eT{α:Type}{t:Sem α}{Q Q':α->Shared->Prop}{M:Model}{A:Around}{E:Value->Shared->Prop}{s:Shared}(h:wpAny M A t Q E s)(hQ:∀a s,Q a s->Q' a s):wpAny M A t Q' E s:=dH h hQ λ_ _ x=>x
section
variable{X:Cx}
inductive Td (i:Nat) (σ:St) (H:Hp) (Q:VK):Prop
 |mk (v:V) (e:σ[i]? =some (some v)) (r:Q v H)
def mE(i:Nat):TE:=Td i
def tC(v:V):TE:=λ_ H Q=>Q v H
theorem Mh{i:Nat}{x:Str}{pos:Pos}(hN:X.N[i]? =some x)(hv:sg X.env.scope x)(hd:(x==("__debug__":Str))=false:=by decide)(hcd:(x==("__classdict__":Str))=false:=by decide):PE X (.Name x pos) (mE i):=by
 intro pins s σ H Q I h;obtain⟨v,e,h⟩:=h;obtain⟨m,hn,hl⟩:=I.loc;obtain⟨u,r,l⟩:=hl i x v hN e hv;have eY:EP X pins σ Q u s:=⟨v,H,I,r,h⟩;rcases l with ⟨hk,hm⟩ | ⟨hk,c,hc,hcell⟩
 ·exact wpAny_Name (wpAny_loadName_local I.ok.kind hk hn hm eY) hd
 ·rcases hk with hk | hk
  ·exact wpAny_Name (wpAny_loadName_cell I.ok.kind hk hc hcell eY) hd
  ·exact wpAny_Name (wpAny_loadName_free I.ok.kind hk hc hcell eY hcd) hd
theorem Ju{i j pos}:PE X (.Constant (.int i) j pos) (tC (.int i)):=λ_ _ _ H _ I h=>wpAny_Constant_int ⟨.int i,H,I.tok _,⟨()⟩,h⟩
theorem O0{b j pos}:PE X (.Constant (.bool b) j pos) (tC (.bl b)):=λ_ _ _ H _ I h=>Constant_bool ⟨.bl b,H,I,rfl,h⟩
theorem V7{j pos}:PE X (.Constant .none j pos) (tC .non):=λ_ _ _ H _ I h=>Constant_none ⟨.non,H,I,rfl,h⟩
theorem F9{x j pos}:PE X (.Constant (.str x) j pos) (tC (.str x)):=λ_ _ _ H _ I h=>Calls.Constant_str ⟨.str x,H,I.tok _,⟨()⟩,h⟩
def Gl(X:Cx)(x:Str):Prop:=X.env.kindOf x=some .globalImplicit
theorem nF{E:Value->Shared->Prop}{pins:List (Addr×Obj)}{s:Shared}{σ:St}{H:Hp}{x:Str}{u:Value}{pos:Pos}{Q:Value->Shared->Prop}(I:Inv X pins σ H s)(hg:Gl X x)(hm:X.mg x=some u)(h:Q u s)
  (hd:(x==("__debug__":Str))=false:=by decide):wpAny (model X.prog X.w) X.A (eval (.Name x pos) X.env) Q E s:=
 Calls.Name_function_global I.ok.kind hg (Calls.loadGlobal_global (by rw[I.ok.glob];exact I.mod.glob.keeps I.bk) hm h) hd
theorem nV{E:Value->Shared->Prop}{pins:List (Addr×Obj)}{s:Shared}{σ:St}{H:Hp}{x:Str}{u:Value}{pos:Pos}{Q:Value->Shared->Prop}(I:Inv X pins σ H s)(hg:Gl X x)(hm:X.mg x=none)(hv:bootBuiltins x=some u)(h:Q u s)
  (hn:x≠"__name__":=by decide) (hd:(x==("__debug__":Str))=false:=by decide):wpAny (model X.prog X.w) X.A (eval (.Name x pos) X.env) Q E s:=by
 obtain⟨mb,h1,h2⟩:=I.mod.blt;exact Calls.Name_function_global I.ok.kind hg (Calls.loadGlobal_builtin (by rw[I.ok.glob];exact I.mod.glob.keeps I.bk) hm (by rw[I.ok.blt];exact h1.keeps I.bk) ((h2 x hn).trans hv) h) hd
theorem Yq{x:Str}{v:V}{u:Value}{pos:Pos}(hg:Gl X x)(hm:X.mg x=some u)(r:RelV v u)(hd:(x==("__debug__":Str))=false:=by decide):PE X (.Name x pos) (tC v):=
 λ_ _ _ H _ I h=>nF I hg hm ⟨v,H,I,r,h⟩ hd
theorem Wa{x:Str}{v:V}{u:Value}{pos:Pos}(hg:Gl X x)(hm:X.mg x=none)(hv:bootBuiltins x=some u)(r:RelV v u)(hn:x≠"__name__":=by decide)(hd:(x==("__debug__":Str))=false:=by decide):PE X (.Name x pos) (tC v):=
 λ_ _ _ H _ I h=>nV I hg hm hv ⟨v,H,I,r,h⟩ hn hd
variable{a b:Expr}{ta tb:TE}{pos:Pos}
def PC(X:Cx)(op:CmpOp)(a b:Expr)(t:TE):Prop:=
 ∀(pins:List (Addr×Obj)) (s:Shared) (σ:St) (H:Hp) (Q:VK),Inv X pins σ H s->t σ H Q->
  wpAny (model X.prog X.w) X.A (eval a X.env) (λv s₁=>wpAny (model X.prog X.w) X.A (eval b X.env) (λu s₂=>wpAny (model X.prog X.w) X.A (compareOp op v u) (EP X pins σ Q) X.xe s₂) X.xe s₁) X.xe s
theorem Pj(b:Expr){op:CmpOp}(h:op≠ .In)(h2:op≠ .NotIn):behindInMarks op b=false:=by
 have e1:(op==CmpOp.In)=false:=by cases op<;>first | rfl | exact absurd rfl h
 have e2:(op==CmpOp.NotIn)=false:=by cases op<;>first | rfl | exact absurd rfl h2
 cases b<;>simp[behindInMarks,e1,e2]
inductive oI (x:V) (H:Hp) (Q:Bool->Hp->Prop):Prop
 |mk (c:Bool) (e:x=.bl c) (r:Q c H)
def tB(t:TE):TT:=λσ H Q=>t σ H λx H1=>oI x H1 Q
theorem aJN{op:CmpOp}{t:TE}(h:PC X op a b t)(h1:behindInMarks op b=false:=by first | exact Pj _ (by decide) (by decide) | rfl):PT X (.Compare a [op] [b] pos) (tB t):=by
 intro pins s σ H Q I hw;refine wpAny_isTrue_Compare1 (eT (h pins s σ H _ I hw) λv s1 h1=>eT h1 λu s2 h2=>eT h2 λc s3 ⟨x,H1,I1,r1,q1⟩=>?_) h1;obtain⟨d,rfl,q⟩:=q1;cases r1;exact dU ⟨H1,I1,q⟩
theorem Vl{e:Expr}{t:TE}(h:PE X e t)(he:∀whole,isTrue e X.env whole=(do let v ←whole;standAt e.pos;holding [v] (truthy v)):=by intro _;rfl):PT X e (tB t):=by
 intro pins s σ H Q I hw;refine isTrue_plain (eT (h pins s σ H _ I hw) λv s1 ⟨x,H1,I1,r1,q1⟩=>?_) (he _);obtain⟨d,rfl,q⟩:=q1;cases r1;exact dU ⟨H1,I1,q⟩
variable{tA tB':TT}{rest:List Expr}
def JY(t u:TT):TT:=λσ H Q=>t σ H λc H1=>if c=true then u σ H1 Q else Q false H1
def FB(t u:TT):TT:=λσ H Q=>t σ H λc H1=>if c=true then Q true H1 else u σ H1 Q
def Ei(t:TT):TT:=λσ H Q=>t σ H λc H1=>Q (!c) H1
theorem Qw(ha:PT X a tA):PW X (.BoolOp .And [a] pos) tA:=by
 intro wh pins s σ H Q I h;refine isTrue_and (eT (ha pins s σ H Q I h) λc s1 e=>?_);cases c with
 |true=>exact isTrue_and_nil e
 |false=>exact e
theorem Zg(ha:PT X a tA):PW X (.BoolOp .Or [a] pos) tA:=by
 intro wh pins s σ H Q I h;refine isTrue_or (eT (ha pins s σ H Q I h) λc s1 e=>?_);cases c with
 |false=>exact isTrue_or_nil e
 |true=>exact e
theorem Zp(ha:PT X a tA)(hb:PW X (.BoolOp .And (b::rest) pos) tB'):PW X (.BoolOp .And (a::b::rest) pos) (JY tA tB'):=by
 intro wh pins s σ H Q I h;refine isTrue_and (eT (ha pins s σ H _ I h) λc s1 ⟨H1,I1,q1⟩=>?_);cases c with
 |true=>exact hb wh pins s1 σ H1 Q I1 q1
 |false=>exact⟨H1,I1,q1⟩
theorem Lk(ha:PT X a tA)(hb:PW X (.BoolOp .Or (b::rest) pos) tB'):PW X (.BoolOp .Or (a::b::rest) pos) (FB tA tB'):=by
 intro wh pins s σ H Q I h;refine isTrue_or (eT (ha pins s σ H _ I h) λc s1 ⟨H1,I1,q1⟩=>?_);cases c with
 |true=>exact⟨H1,I1,q1⟩
 |false=>exact hb wh pins s1 σ H1 Q I1 q1
theorem P9(ha:PT X a tA):PT X (.UnaryOp .Not a pos) (Ei tA):=by
 intro pins s σ H Q I h;exact isTrue_not (ha pins s σ H (λc H1=>Q (!c) H1) I h)
def Kb(ta tb:TE):TE:=λσ H Q=>ta σ H λx H1=>oI x H1 λc H1=>if c=true then tb σ H1 Q else Q (.bl false) H1
def FX(ta tb:TE):TE:=λσ H Q=>ta σ H λx H1=>oI x H1 λc H1=>if c=true then Q (.bl true) H1 else tb σ H1 Q
def D7(ta:TE):TE:=λσ H Q=>ta σ H λx H1=>oI x H1 λc H1=>Q (.bl (!c)) H1
theorem X9{op}{t:TE}(h:PE X a t):PE X (.BoolOp op [a] pos) t:=λpins s σ H Q I hw=>BoolOp_one (h pins s σ H Q I hw)
theorem ZI(ha:PE X a ta)(hb:PE X (.BoolOp .And (b::rest) pos) tb):PE X (.BoolOp .And (a::b::rest) pos) (Kb ta tb):=by
 intro pins s σ H Q I h;refine BoolOp_and (eT (ha pins s σ H _ I h) λv s1 ⟨x,H1,I1,r1,q1⟩=>?_);obtain⟨c,rfl,q1⟩:=q1;cases r1;refine dU ?_;cases c with
 |true=>exact hb pins s1 σ H1 Q I1 q1
 |false=>exact⟨.bl false,H1,I1,rfl,q1⟩
theorem aRB(ha:PE X a ta)(hb:PE X (.BoolOp .Or (b::rest) pos) tb):PE X (.BoolOp .Or (a::b::rest) pos) (FX ta tb):=by
 intro pins s σ H Q I h;refine BoolOp_or (eT (ha pins s σ H _ I h) λv s1 ⟨x,H1,I1,r1,q1⟩=>?_);obtain⟨c,rfl,q1⟩:=q1;cases r1;refine dU ?_;cases c with
 |false=>exact hb pins s1 σ H1 Q I1 q1
 |true=>exact⟨.bl true,H1,I1,rfl,q1⟩
theorem Xp(ha:PE X a ta):PE X (.UnaryOp .Not a pos) (D7 ta):=by
 intro pins s σ H Q I h;refine UnaryOp_ (eT (ha pins s σ H _ I h) λv s1 ⟨x,H1,I1,r1,q1⟩=>?_);obtain⟨c,rfl,q1⟩:=q1;cases r1;exact not_of (dU ⟨.bl (!c),H1,I1,rfl,q1⟩)
def IL(t:TT)(ta tb:TE):TE:=λσ H Q=>t σ H λc H1=>if c=true then ta σ H1 Q else tb σ H1 Q
theorem S7{c:Expr}(hc:PT X c tA)(ha:PE X a ta)(hb:PE X b tb):PE X (.IfExp c a b pos) (IL tA ta tb):=by
 intro pins s σ H Q I h;refine wpAny_IfExp (eT (hc pins s σ H _ I h) λd s1 ⟨H1,I1,q1⟩=>?_);cases d with
 |true=>exact ha pins s1 σ H1 Q I1 q1
 |false=>exact hb pins s1 σ H1 Q I1 q1
end
def SqL(K:FG)(H:Hp)(a:Addr)(xs:List V):Prop:=
 Rd H a (.lst xs)∨
  ∃(o:Obj) (its:Array Value) (n:Nat),K.lookup a=some o/\o.cls=.type "list"/\o.dict=none/\o.data=.seq its n/\its.size<=sizeLine/\Vals xs its.toList
def SqT(K:FG)(H:Hp)(a:Addr)(xs:List V):Prop:=
 Rd H a (.tup xs)∨
  ∃(o:Obj) (its:Array Value) (n:Nat),K.lookup a=some o/\o.cls=.type "tuple"/\o.data=.seq its n/\its.size<=sizeLine/\Vals xs its.toList
noncomputable def Dp:Value->Option V
 |.none=>some .non
 |.bool b=>some (.bl b)
 |.int i _=>some (.int i)
 |.str x _=>some (.str x)
 |.bytes b _=>some (.byt b)
 |.float b _=>some (.flt b)
 |.ref a=>some (.ref a)
 |.type n=>some (.ty n)
 |_=>none
theorem RelV.abs{x:V}{u:Value}(r:RelV x u):Dp u=some x:=by
 cases x with
 |non=>cases r;rfl
 |bl _=>cases r;rfl
 |int _=>obtain⟨t,rfl⟩:=r;rfl
 |str _=>obtain⟨t,rfl⟩:=r;rfl
 |byt _=>obtain⟨t,rfl⟩:=r;rfl
 |flt _=>obtain⟨t,rfl⟩:=r;rfl
 |ref _=>cases r;rfl
 |ty _=>cases r;rfl
theorem RelV.inj{x y:V}{u:Value}(r:RelV x u)(q:RelV y u):x=y:=bF (r.abs.symm.trans q.abs)
theorem Vals.inj:∀{xs ys:List V} {us:List Value},Vals xs us->Vals ys us->xs=ys
 |_,_,_,.nil,.nil=>rfl
 |_,_,_,.cons r t,.cons r' t'=>by rw[r.inj r',Vals.inj t t']
section
variable{X:Cx}{pins:List (Addr×Obj)}{σ:St}{H:Hp}{s:Shared}{a:Addr}{xs ys:List V}
theorem SqL.of{K:FG}(h:H a=some (.lst xs)):SqL K H a xs:=.inl (.inl h)
theorem SqT.of{K:FG}(h:H a=some (.tup xs)):SqT K H a xs:=.inl (.inl h)
theorem Inv.list(I:Inv X pins σ H s)(h:SqL X.K H a xs):∃its:List Value,Vals xs its/\PlainL s.heap a its.toArray/\xs.length<=sizeLine:=by
 rcases h with h | ⟨o,its,n,hk,hc,hd,hs,hz,r⟩
 ·obtain⟨z,its,n,r,e⟩:=h.ok I.hok;exact⟨its,r,⟨_,n,e,rfl,rfl,rfl⟩,z⟩
 ·refine⟨its.toList,r,⟨o,n,I.kIn a o hk,hc,hd,by simpa using hs⟩,?_⟩;have e:=r.length;simp only[dC] at e;omega
theorem Inv.tuple(I:Inv X pins σ H s)(h:SqT X.K H a xs):∃its:List Value,Vals xs its/\IsTup s.heap a its.toArray/\xs.length<=sizeLine:=by
 rcases h with h | ⟨o,its,n,hk,hc,hs,hz,r⟩
 ·obtain⟨z,its,r,p⟩:=h.ok I.hok;exact⟨its,r,p,z⟩
 ·refine⟨its.toList,r,⟨o,I.kIn a o hk,hc,n,by simpa using hs⟩,?_⟩;have e:=r.length;simp only[dC] at e;omega
theorem Inv.list_inj(I:Inv X pins σ H s)(h:SqL X.K H a xs)(h':SqL X.K H a ys):xs=ys:=by
 obtain⟨its,r,⟨o,n,e,_,_,d⟩,_⟩:=I.list h;obtain⟨its',r',⟨o',n',e',_,_,d'⟩,_⟩:=I.list h';rw[e] at e';cases e';rw[d] at d';injection d' with d1 _;have:its=its':=by simpa using congrArg Array.toList d1
 subst this;exact r.inj r'
theorem Inv.tuple_inj(I:Inv X pins σ H s)(h:SqT X.K H a xs)(h':SqT X.K H a ys):xs=ys:=by
 obtain⟨its,r,⟨o,e,_,n,d⟩,_⟩:=I.tuple h;obtain⟨its',r',⟨o',e',_,n',d'⟩,_⟩:=I.tuple h';rw[e] at e';cases e';rw[d] at d';injection d' with d1 _;have:its=its':=by simpa using congrArg Array.toList d1
 subst this;exact r.inj r'
end
noncomputable abbrev Cx.wish(X:Cx)(E:Value->Shared->Prop):Cx:={X with xe:=E}
noncomputable abbrev Cx.nox(X:Cx):Cx:=X.wish λ_ _=>False
theorem Cx.Ok.wish{X:Cx}(ok:X.Ok)(E:Value->Shared->Prop):(X.wish E).Ok:=
 ⟨ok.mod,ok.kind,ok.glob,ok.blt,ok.above,ok.inj,ok.has,ok.cab,ok.hd,ok.frames,ok.stk,ok.exf,ok.bs,ok.bsz,ok.noex,ok.exfs,ok.funs,ok.frf⟩
theorem Cx.Ok.unwish{X:Cx}{E:Value->Shared->Prop}(ok:(X.wish E).Ok):X.Ok:=
 ⟨ok.mod,ok.kind,ok.glob,ok.blt,ok.above,ok.inj,ok.has,ok.cab,ok.hd,ok.frames,ok.stk,ok.exf,ok.bs,ok.bsz,ok.noex,ok.exfs,ok.funs,ok.frf⟩
section
variable{X:Cx}{pins:List (Addr×Obj)}{σ:St}{H:Hp}{s:Shared}{E:Value->Shared->Prop}
theorem Inv.wish(I:Inv X pins σ H s)(E:Value->Shared->Prop):Inv (X.wish E) pins σ H s:=⟨I.ok.wish E,I.os,I.bare,I.base,I.loc,I.cell,I.free,I.freeC,I.pin,I.hok,I.len⟩
theorem Inv.unwish(I:Inv (X.wish E) pins σ H s):Inv X pins σ H s:=⟨I.ok.unwish,I.os,I.bare,I.base,I.loc,I.cell,I.free,I.freeC,I.pin,I.hok,I.len⟩
theorem SP.unwish{D:iw}{f:Flow}{s':Shared}(h:SP (X.wish E) pins D f s'):SP X pins D f s':=by
 cases f with
 |next=>obtain⟨σ',H',I,q⟩:=h;exact⟨σ',H',I.unwish,q⟩
 |brk=>obtain⟨σ',H',I,q⟩:=h;exact⟨σ',H',I.unwish,q⟩
 |cont=>obtain⟨σ',H',I,q⟩:=h;exact⟨σ',H',I.unwish,q⟩
 |ret u=>obtain⟨v,σ',H',I,r,q⟩:=h;exact⟨v,σ',H',I.unwish,r,q⟩
theorem PSs.nox{st:List Stmt}{t:TS}(h:PSs X.nox st t):PSs X st t:=λpins s σ H D I hw=>
 dH (h pins s σ H D (I.wish _) hw) (λ_ _ q=>q.unwish) λ_ _ z=>False.elim z
end
section
variable{X:Cx}{st:Stmt}{rest:List Stmt}{t u:TS}{e:Expr}{te:TE}{pos:Pos}
def HC:TS:=λD σ H=>D.nx σ H
def qb(t u:TS):TS:=λD σ H=>t {D with nx:=u D} σ H
theorem R6:PSs X [] HC:=λ_ _ σ H _ I h=>wpAny_execs_nil ⟨σ,H,I,h⟩
theorem Zh(h1:PS X st t)(h2:PSs X rest u):PSs X (st::rest) (qb t u):=by
 intro pins s σ H D I h;refine wpAny_execs_cons (eT (h1 pins s σ H {D with nx:=u D} I h) λf s1 q=>?_);cases f with
 |next=>
  obtain⟨σ',H',I',q⟩:=q;exact h2 pins s1 σ' H' D I' q
 |ret v=>exact q
 |brk=>exact q
 |cont=>exact q
theorem XC(h1:PS X st t):PSs X [st] t:=by
 intro pins s σ H D I h;refine wpAny_execs_cons (eT (h1 pins s σ H D I h) λf s1 q=>?_);cases f with
 |next=>exact wpAny_execs_nil q
 |ret v=>exact q
 |brk=>exact q
 |cont=>exact q
theorem Inv.quiet{pins:List (Addr×Obj)}{σ:St}{H:Hp}{s:Shared}(I:Inv X pins σ H s):interactive X.env=false:=by simp[interactive,I.ok.kind]
def Gk(te:TE):TS:=λD σ H=>te σ H λ_ H1=>D.nx σ H1
theorem W2(he:PE X e te)(hs:swapsWith e none pos.line X.env=pure false:=by rfl):PS X (.Expr e pos) (Gk te):=by
 intro pins s σ H D I h;exact wpAny_Expr_any (eT (he pins s σ H _ I h) λv s1 ⟨x,H1,I1,r1,q1⟩=>⟨σ,H1,I1,q1⟩) I.quiet hs
def Ep(te:TE):TS:=λD σ H=>te σ H D.rt
theorem aJD(he:PE X e te):PS X (.Return (some e) pos) (Ep te):=by
 intro pins s σ H D I h;exact wpAny_Return_some (eT (he pins s σ H _ I h) λv s1 ⟨x,H1,I1,r1,q1⟩=>⟨x,σ,H1,I1,r1,q1⟩)
def En(c:TT)(t u:TS):TS:=λD σ H=>c σ H λb H1=>if b=true then t D σ H1 else u D σ H1
theorem Sz{c:Expr}{a b:List Stmt}{tc:TT}(hc:PT X c tc)(ha:PSs X a t)(hb:PSs X b u):PS X (.If c a b pos) (En tc t u):=by
 intro pins s σ H D I h;refine wpAny_If (eT (hc pins s σ H _ I h) λd s1 ⟨H1,I1,q1⟩=>?_);cases d with
 |true=>exact ha pins s1 σ H1 D I1 q1
 |false=>exact hb pins s1 σ H1 D I1 q1
def He:TS:=λ_ _ _=>False
theorem W3:PS X st He:=λ_ _ _ _ _ _ h=>h.elim
end
noncomputable abbrev TG:=V->St->Hp->(St->Hp->Prop)->Prop
noncomputable abbrev j5:=List V->St->Hp->(St->Hp->Prop)->Prop
def PG(X:Cx)(target:Expr)(t:TG):Prop:=
 ∀(pins:List (Addr×Obj)) (s:Shared) (σ:St) (H:Hp) (v:V) (u:Value) (Q:St->Hp->Prop),Inv X pins σ H s->RelV v u->t v σ H Q->
  wpAny (model X.prog X.w) X.A (assign target X.env u) (λ_ s'=>∃σ' H',Inv X pins σ' H' s'/\Q σ' H') X.xe s
def oB(X:Cx)(ts:List Expr)(t:j5):Prop:=
 ∀(pins:List (Addr×Obj)) (s:Shared) (σ:St) (H:Hp) (vs:List V) (us:List Value) (Q:St->Hp->Prop),Inv X pins σ H s->Vals vs us->t vs σ H Q->
  wpAny (model X.prog X.w) X.A (assignInOrder ((assignEach ts X.env).map (·.2)) us) (λ_ s'=>∃σ' H',Inv X pins σ' H' s'/\Q σ' H') X.xe s
noncomputable abbrev Dk:=V->V->V->Hp->(Hp->Prop)->Prop
def FW(X:Cx)(t:Dk):Prop:=
 ∀(pins:List (Addr×Obj)) (s:Shared) (σ:St) (H:Hp) (o i v:V) (ov iv u:Value) (Q:Hp->Prop),Inv X pins σ H s->RelV o ov->RelV i iv->RelV v u->t o i v H Q->
  wpAny (model X.prog X.w) X.A (setItem ov iv u) (λ_ s'=>∃H',Inv X pins σ H' s'/\Q H') X.xe s
section
variable{X:Cx}{pos:Pos}
def jy(i:Nat):TG:=λv σ H Q=>Q (σ.set i (some v)) H
theorem GS{i:Nat}{x:Str}(hN:X.N.Nodup)(hi:X.N[i]? =some x)(hx:n4 X.env.scope x)(hf:X.fn x=true∨X.env.scope.names.lookup x=some .local:=by first | exact .inl rfl | exact .inr rfl | assumption):PG X (.Name x pos) (jy i):=by
 intro pins s σ H v u Q I r h;exact wpAny_assign_Name (JI I hN hi hx r (λs' I'=>⟨_,H,I',h⟩) hf)
inductive N6 (vs:List V) (σ:St) (H:Hp) (Q:St->Hp->Prop):Prop
 |mk (e:vs=[]) (r:Q σ H)
def tX:j5:=N6
inductive MT (t:TG) (u:j5) (vs:List V) (σ:St) (H:Hp) (Q:St->Hp->Prop):Prop
 |mk (v:V) (r:List V) (e:vs=v::r) (h:t v σ H λσ' H'=>u r σ' H' Q)
def qr(t:TG)(u:j5):j5:=MT t u
theorem aFO:oB X [] tX:=by
 intro pins s σ H vs us Q I r h;obtain⟨e,h⟩:=h;subst e;cases r;exact assignInOrder_nil ⟨σ,H,I,h⟩
theorem Wt{e:Expr}{es:List Expr}{t:TG}{u:j5}(h1:PG X e t)(h2:oB X es u)
  (hs:(assignEach (e::es) X.env).map (·.2)=assign e X.env::(assignEach es X.env).map (·.2):=by rfl):oB X (e::es) (qr t u):=by
 intro pins s σ H vs us Q I r h;obtain⟨v,vr,e1,h⟩:=h;subst e1;cases r with
 |cons r rr=>
  rw[hs];refine assignInOrder_cons (eT (h1 pins s σ H _ _ _ I r h) λ_ s1 ⟨σ1,H1,I1,q1⟩=>?_);exact h2 pins s1 σ1 H1 _ _ Q I1 rr q1
inductive Yc (K:FG) (n:Nat) (t:j5) (v:V) (σ:St) (H:Hp) (Q:St->Hp->Prop):Prop
 |mk (a:Addr) (xs:List V) (e:v=.ref a) (s:SqT K H a xs) (l:xs.length=n) (r:t xs σ H Q)
def qE(K:FG)(n:Nat)(t:j5):TG:=Yc K n t
theorem Lz{es:List Expr}{k:Nat}{t:j5}{n:Nat}(hc:X.calm=true)(h:oB X es t)
  (hn:(assignEach es X.env).length=n:=by rfl) (hst:(assignEach es X.env).findIdx? (·.1)=none:=by rfl):PG X (.Tuple es k pos) (qE X.K n t):=by
 intro pins s σ H v u Q I r hw;obtain⟨a,xs,e1,hq,hl,hw⟩:=hw;subst e1;cases r;obtain⟨its,rv,ht,hz⟩:=I.tuple hq;refine assign_Tuple_tuple (I.ok.hd hc) ht (by simp[hn,←hl,rv.length]) hst λh' hx=>?_;have I1:Inv X pins σ H {s with heap:=h'}:=I.kept (t':=s.toks) λb o e=>hx b o (bE (a9 e)) e;exact h pins _ σ H xs _ Q I1 (by simpa using rv) hw
def Jx(to ti:TE)(t:Dk):TG:=λv σ H Q=>to σ H λo H1=>ti σ H1 λi H2=>t o i v H2 λH3=>Q σ H3
theorem MV{o i:Expr}{to ti:TE}{t:Dk}(ho:PE X o to)(hi:PE X i ti)(hs:FW X t)
  (ha:∀v,assign (.Subscript o i pos) X.env v=(do
   let ov ←holding [v] (eval o X.env)
   let iv ←holding [v,ov] (eval i X.env)
   standAt pos
   holding [v,ov,iv] (setItem ov iv v)
   release [v,ov,iv] []):=by intro _;rfl):PG X (.Subscript o i pos) (Jx to ti t):=by
 intro pins s σ H v u Q I r h;rw[ha];refine dG (dJ (eT (ho pins s σ H _ I h) λov s1 ⟨x,H1,I1,r1,q1⟩=>?_));refine dG (dJ (eT (hi pins s1 σ H1 _ I1 q1) λiv s2 ⟨y,H2,I2,r2,q2⟩=>?_));refine dG (wpAny_standAt (dG (dJ (eT (hs pins s2 σ H2 x y v ov iv u _ I2 r1 r2 r q2) λ_ s3 ⟨H3,I3,q3⟩=>?_))));exact wpAny_release ⟨σ,H3,I3,q3⟩
def nE(te:TE)(g:TG):TS:=λD σ H=>te σ H λx H1=>g x σ H1 D.nx
theorem XR{tg e:Expr}{te:TE}{g:TG}(he:PE X e te)(hg:PG X tg g)(hs:swapsWithSole [tg] e pos.line X.env=pure false:=by rfl)(hw:swappedStores [tg] e X.env=pure none:=by rfl)
  (h1:(assignEach [tg] X.env).map (·.2)=[assign tg X.env]:=by rfl):PS X (.Assign [tg] e pos) (nE te g):=by
 intro pins s σ H D I h;refine wpAny_Assign_stores (eT (he pins s σ H _ I h) λv s1 ⟨x,H1,I1,r1,q1⟩=>?_) hs hw;rw[h1];exact eT (hg pins s1 σ H1 x v _ I1 r1 q1) λ_ s2 q=>q
theorem V5{i:Nat}{x:Str}{e:Expr}{te:TE}{pos':Pos}(hN:X.N.Nodup)(hi:X.N[i]? =some x)(hx:n4 X.env.scope x)(he:PE X e te)(hs:swapsWith e (some (.Name x pos')) pos.line X.env=pure false:=by rfl)(hf:X.fn x=true∨X.env.scope.names.lookup x=some .local:=by first | exact .inl rfl | exact .inr rfl | assumption):
  PS X (.Assign [.Name x pos'] e pos) (nE te (jy i)):=by
 intro pins s σ H D I h;refine wpAny_Assign_Name (eT (he pins s σ H _ I h) λv s1 ⟨y,H1,I1,r1,q1⟩=>?_) hs;exact JI I1 hN hi hx r1 (λs2 I2=>⟨_,H1,I2,q1⟩) hf
def C6(c:TT)(tb:TS):TS:=λD σ H=>∃W:Nat->St->Hp->Prop,(∃m,W m σ H)/\∀m σ H,W m σ H->
 c σ H λb H1=>if b=true then ∃N:St->Hp->Prop,(∀σ' H',N σ' H'->∃m',m'<m/\W m' σ' H')/\tb {D with nx:=N,ct:=N,bk:=D.nx} σ H1 else D.nx σ H1
theorem RV{c:Expr}{body:List Stmt}{tc:TT}{tb:TS}(hp:PassesOwn (model X.prog X.w) X.A X.env X.xe)(hc:PT X c tc)(hb:PSs X body tb):PS X (.While c body [] pos) (C6 tc tb):=by
 intro pins s σ H D I h;obtain⟨W,⟨m0,w0⟩,turn⟩:=h;refine wpAny_While (codeAny_whileLoop (λn s'=>∃σ' H',Inv X pins σ' H' s'/\W n σ' H') ?_ m0 ⟨σ,H,I,w0⟩);rintro n s1 ⟨σ1,H1,I1,w1⟩;refine dF hp (eT (hc pins s1 σ1 H1 _ I1 (turn n σ1 H1 w1)) λb s2 ⟨H2,I2,q2⟩=>?_);cases b with
 |true=>
  obtain⟨N,hN,q2⟩:=q2;rw[if_pos rfl];refine dF hp (eT (hb pins s2 σ1 H2 _ I2 q2) λf s3 q3=>?_);cases f with
  |next=>
   obtain⟨σ3,H3,I3,n3⟩:=q3;obtain⟨m',hm,w3⟩:=hN σ3 H3 n3;exact⟨m',hm,σ3,H3,I3,w3⟩
  |cont=>
   obtain⟨σ3,H3,I3,n3⟩:=q3;obtain⟨m',hm,w3⟩:=hN σ3 H3 n3;exact⟨m',hm,σ3,H3,I3,w3⟩
  |brk=>exact q3
  |ret v=>exact q3
 |false=>
  rw[if_neg bG];exact wpAny_execs_nil ⟨σ1,H2,I2,q2⟩
end
structure It where
 go:Nat->Hp->Prop
 yld:Nat->Hp->V->Hp->Prop
 stop:Nat->Hp->Prop
def jM(X:Cx)(pins:List (Addr×Obj))(H:Hp)(b:Addr):Prop:=
 H b=none/\b≠X.env.locals/\b∉X.fs/\(b∈X.ex∨X.s₀.heap.objs.size<=b)/\(∀x c,X.env.cells.lookup x=some c->c≠b)/\∀p∈X.pn++pins,p.1≠b
theorem Inv.fpOk{X:Cx}{pins:List (Addr×Obj)}{σ:St}{H H':Hp}{s:Shared}{b:Addr}(I:Inv X pins σ H s)(hb:s.heap.objs.size<=b)(hn:H' b=none):jM X pins H' b:=by
 refine⟨hn,Nat.ne_of_gt (bC I.lt hb),I.nofs hb,.inr (bR I.sz hb),λx c e z=>?_,λp hp z=>?_⟩
 ·obtain⟨v,q⟩:=I.cell x c e;exact absurd (bC q.lt (by rw[z];exact hb)) (cI _)
 ·exact absurd (bC (a9 (I.pin p hp).1) (by rw[z];exact hb)) (cI _)
structure jk(P:Program)(w:World)(K:FG)(tg:Expr)(J:It)(fp:List Addr)(it:Addr)(tn:Nat->Heap->Prop):Prop where
 mem:it∈fp
 obj:∀i h,tn i h->∀b∈fp,∃o,h.get? b=some o/\∀v,o.data≠ .cell v
 keep:∀i h h',tn i h->(∀b∈fp,∀o,h.get? b=some o->h'.get? b=some o)->tn i h'
 item:∀(X:Cx),X.prog=P->X.w=w->X.K=K->X.calm=true->∀(i:Nat) (pins:List (Addr×Obj)) (s:Shared) (σ:St) (H:Hp) (E:Value->Shared->Prop),Inv X pins σ H s->(∀b∈fp,jM X pins H b)->tn i s.heap->J.go i H->
  wpAny (model P w) X.A (pyNext (.ref it)) (λr s1=>∃u,r=some u/\
   wpAny (model P w) X.A (letOwnedTupleGo tg (.ref it) u) (λ_ s2=>∃x H',Inv X pins σ H' s2/\RelV x u/\J.yld i H x H'/\tn (i+1) s2.heap/\∀b∈fp,H' b=none) E s1) E s
 done:∀(X:Cx),X.prog=P->X.w=w->X.K=K->X.calm=true->∀(i:Nat) (pins:List (Addr×Obj)) (s:Shared) (σ:St) (H:Hp) (E:Value->Shared->Prop),Inv X pins σ H s->(∀b∈fp,jM X pins H b)->tn i s.heap->J.stop i H->
  wpAny (model P w) X.A (pyNext (.ref it)) (λr s1=>r=none/\Inv X pins σ H s1) E s
 self:∀(A:Around) (i:Nat) (s:Shared) (Q:Value->Shared->Prop) (E:Value->Shared->Prop),tn i s.heap->Q (.ref it) s->wpAny (model P w) A (pyIter (.ref it)) Q E s
noncomputable abbrev TI:=St->Hp->(It->Hp->Prop)->Prop
def EE(X:Cx)(pins:List (Addr×Obj))(σ:St)(tg:Expr)(R:It->Hp->Prop)(itv:Value)(s2:Shared):Prop:=
 ∃(it:Addr) (fp:List Addr) (tn:Nat->Heap->Prop) (J:It) (H':Hp),itv=.ref it/\Inv X pins σ H' s2/\jk X.prog X.w X.K tg J fp it tn/\tn 0 s2.heap/\(∀b∈fp,jM X pins H' b)/\R J H'
def PI(X:Cx)(tg iter:Expr)(wi:TI):Prop:=
 ∀(pins:List (Addr×Obj)) (s:Shared) (σ:St) (H:Hp) (R:It->Hp->Prop),Inv X pins σ H s->wi σ H R->
  wpAny (model X.prog X.w) X.A (eval iter X.env) (λv s1=>wpAny (model X.prog X.w) X.A (pyIter v) (EE X pins σ tg R) X.xe s1) X.xe s
theorem p6{M:Model}{A:Around}{E:Value->Shared->Prop}{s:Shared}{tg:Expr}{it:Addr}{u:Value}{o:Obj}{n:String}{vs:Array Value}{Q:Unit->Shared->Prop}(ho:s.heap.get? it=some o)(hc:o.cls=.type n)(hd:o.data=.fields vs)
  (hn:["enumerate","zip","dict_itemiterator","dict_reverseitemiterator","odict_iterator","itertools.zip_longest","itertools.pairwise"].contains n=false) (hQ:Q () s):wpAny M A (letOwnedTupleGo tg (.ref it) u) Q E s:=by
 unfold letOwnedTupleGo;cases tg<;>first
  |exact dR hQ
  |(cases u<;>first
    |exact dR hQ
    |(refine dG (wpAny_load ho ?_)
      rw[hc,hd];show wpAny M A (if (["enumerate","zip","dict_itemiterator","dict_reverseitemiterator","odict_iterator","itertools.zip_longest","itertools.pairwise"].contains n&&vs[0]? ==some (rawInt _))=true then _ else _) Q E s;rw[if_neg (by intro h;rw[hn,Bool.false_and] at h;cases h)];exact dR hQ))
noncomputable def mD(K:FG)(a:Addr):It:=
 ⟨λi H=>∃xs x,SqL K H a xs/\xs[i]? =some x,λi H x H'=>H'=H/\∀xs,SqL K H a xs->xs[i]? =some x,λi H=>∃xs,SqL K H a xs/\xs.length<=i⟩
noncomputable def nH(K:FG)(a:Addr):It:=
 ⟨λi H=>∃xs x,SqT K H a xs/\xs[i]? =some x,λi H x H'=>H'=H/\∀xs,SqT K H a xs->xs[i]? =some x,λi H=>∃xs,SqT K H a xs/\xs.length<=i⟩
noncomputable def kZ(lo:Int)(n:Nat):It:=⟨λi _=>i<n,λi H x H'=>H'=H/\x=.int (lo+i),λi _=>n<=i⟩
theorem Rt{P:Program}{w:World}{K:FG}{tg:Expr}(a it:Addr):jk P w K tg (mD K a) [it] it (λi h=>h.IsListIter it a i) where
 mem:=by simp
 obj:=λi h st b hb=>by
  have e:b=it:=by simpa using hb
  subst e;obtain⟨o,e,c,d⟩:=st;exact⟨o,e,λv z=>by rw[d] at z;cases z⟩
 keep:=λi h h' st k=>st.at λo e=>k it (by simp) o e
 item:=by
  intro X hP hw hK hc i pins s σ H E I hf st hg;subst hP hw hK;obtain⟨xs,x,hq,hx⟩:=hg;obtain⟨its,rv,p,hz⟩:=I.list hq;obtain⟨u,hu,ru⟩:=rv.get hx;obtain⟨f0,f1,f2,f3,f4,f5⟩:=hf it (by simp);refine wpAny_pyNext_list_item st p.isList (x:=u) (by simpa using hu) λh' st' sb=>?_;have I1:Inv X pins σ H {s with heap:=h'}:=I.turned (t':=s.toks) (λb o hb e=>(sb.2 b hb).trans e) f0 f1 f3 f4 f5;obtain⟨o,e,c,d⟩:=id st'
  exact⟨u,rfl,p6 (s:={s with heap:=h'}) e c d (by decide) ⟨x,H,I1,ru,⟨rfl,λys hy=>by rw[I.list_inj hy hq];exact hx⟩,st',λb hb=>(hf b hb).1⟩⟩
 done:=by
  intro X hP hw hK hc i pins s σ H E I hf st hg;subst hP hw hK;obtain⟨xs,hq,hx⟩:=hg;obtain⟨its,rv,p,hz⟩:=I.list hq;obtain⟨f0,f1,f2,f3,f4,f5⟩:=hf it (by simp);have hl:=rv.length;exact wpAny_pyNext_list_end (I.ok.hd hc) st p.isList (by simp;omega) λh' eb=>⟨rfl,I.turned (t':=s.toks) (λb o hb e=>eb b o hb e) f0 f1 f3 f4 f5⟩
 self:=λ_ _ _ _ _ st h=>wpAny_pyIter_listiter st h
theorem Q1{P:Program}{w:World}{K:FG}{tg:Expr}(a it:Addr):jk P w K tg (nH K a) [it] it (λi h=>h.IsTupleIter it a i) where
 mem:=by simp
 obj:=λi h st b hb=>by
  have e:b=it:=by simpa using hb
  subst e;obtain⟨o,e,c,d⟩:=st;exact⟨o,e,λv z=>by rw[d] at z;cases z⟩
 keep:=λi h h' st k=>st.at λo e=>k it (by simp) o e
 item:=by
  intro X hP hw hK hc i pins s σ H E I hf st hg;subst hP hw hK;obtain⟨xs,x,hq,hx⟩:=hg;obtain⟨its,rv,p,hz⟩:=I.tuple hq;obtain⟨u,hu,ru⟩:=rv.get hx;obtain⟨f0,f1,f2,f3,f4,f5⟩:=hf it (by simp);refine wpAny_pyNext_tuple_item st (show s.heap.IsTuple a its.toArray from p) (x:=u) (by simpa using hu) λh' st' sb=>?_;have I1:Inv X pins σ H {s with heap:=h'}:=I.turned (t':=s.toks) (λb o hb e=>(sb.2 b hb).trans e) f0 f1 f3 f4 f5
  obtain⟨o,e,c,d⟩:=id st';exact⟨u,rfl,p6 (s:={s with heap:=h'}) e c d (by decide) ⟨x,H,I1,ru,⟨rfl,λys hy=>by rw[I.tuple_inj hy hq];exact hx⟩,st',λb hb=>(hf b hb).1⟩⟩
 done:=by
  intro X hP hw hK hc i pins s σ H E I hf st hg;subst hP hw hK;obtain⟨xs,hq,hx⟩:=hg;obtain⟨its,rv,p,hz⟩:=I.tuple hq;obtain⟨f0,f1,f2,f3,f4,f5⟩:=hf it (by simp);have hl:=rv.length;exact wpAny_pyNext_tuple_end (I.ok.hd hc) st (show s.heap.IsTuple a its.toArray from p) (by simp;omega) λh' eb=>⟨rfl,I.turned (t':=s.toks) (λb o hb e=>eb b o hb e) f0 f1 f3 f4 f5⟩
 self:=λ_ _ _ _ _ st h=>wpAny_pyIter_tupleiter st h
theorem Tq{P:Program}{w:World}{K:FG}{tg:Expr}(it:Addr)(lo:Int)(n:Nat):jk P w K tg (kZ lo n) [it] it (λi h=>IsRangeIter h it (lo+(i:Nat)*1) ((n:Int)-(i:Nat)) 1) where
 mem:=by simp
 obj:=λi h st b hb=>by
  have e:b=it:=by simpa using hb
  subst e;exact⟨_,st,λv z=>by
   have z':Data.fields _=Data.cell v:=z;cases z'⟩
 keep:=λi h h' st k=>k it (by simp) _ st
 item:=by
  intro X hP hw hK hc i pins s σ H E I hf st hg;subst hP hw hK;obtain⟨f0,f1,f2,f3,f4,f5⟩:=hf it (by simp);have W:=Walks.range (prog:=X.prog) (w:=X.w) (I.ok.hd hc) it lo 1 n;refine W.item i s _ _ hg st λv h' tk hv st' kk=>?_;obtain⟨t,rfl⟩:=hv;have I1:Inv X pins σ H {s with heap:=h',toks:=tk}:=I.turned (λb o hb e=>kk b o (by simpa using hb) e) f0 f1 f3 f4 f5;refine⟨(),p6 (s:={s with heap:=h',toks:=tk}) (n:="range_iterator") st' rfl rfl (by decide) ⟨.int (lo+i),H,I1,⟨t,?_⟩,⟨rfl,rfl⟩,st',λb hb=>(hf b hb).1⟩⟩
  rw[Int.mul_one]
 done:=by
  intro X hP hw hK hc i pins s σ H E I hf st hg;subst hP hw hK;obtain⟨f0,f1,f2,f3,f4,f5⟩:=hf it (by simp);exact wpAny_pyNext_range_end (I.ok.hd hc) st (by have:n<=i:=hg;omega) λh' eb=>⟨rfl,I.turned (t':=s.toks) (λb o hb e=>eb b o hb e) f0 f1 f3 f4 f5⟩
 self:=λ_ _ _ _ _ st h=>wpAny_pyIter_rangeiter st h
section
variable{X:Cx}{tg:Expr}
def Ah(K:FG)(tl:TE):TI:=λσ H R=>tl σ H λx H1=>∃a,x=.ref a/\(∃xs,SqL K H1 a xs)/\R (mD K a) H1
def Fo(K:FG)(tl:TE):TI:=λσ H R=>tl σ H λx H1=>∃a,x=.ref a/\(∃xs,SqT K H1 a xs)/\R (nH K a) H1
theorem XA{l:Expr}{tl:TE}(hl:PE X l tl):PI X tg l (Ah X.K tl):=by
 intro pins s σ H R I h;refine eT (hl pins s σ H _ I h) λv s1 ⟨x,H1,I1,r1,q1⟩=>?_;obtain⟨a,e,⟨xs,hq⟩,q⟩:=q1;subst e;cases r1;obtain⟨its,rv,p,hz⟩:=I1.list hq;refine wpAny_pyIter_list p.isList ?_;refine⟨s1.heap.objs.size,[s1.heap.objs.size],_,_,H1,rfl,I1.kept (t':=s1.toks) λb o e=>bD _ e,Rt a _,⟨_,bO _ rfl,rfl,rfl⟩,λb hb=>?_,q⟩;have e:b=s1.heap.objs.size:=by simpa using hb
 subst e;exact I1.fpOk (aX _) (I1.hok.fresh (aX _))
theorem aHU{l:Expr}{tl:TE}(hl:PE X l tl):PI X tg l (Fo X.K tl):=by
 intro pins s σ H R I h;refine eT (hl pins s σ H _ I h) λv s1 ⟨x,H1,I1,r1,q1⟩=>?_;obtain⟨a,e,⟨xs,hq⟩,q⟩:=q1;subst e;cases r1;obtain⟨its,rv,p,hz⟩:=I1.tuple hq;refine wpAny_pyIter_tuple (show s1.heap.IsTuple a its.toArray from p) ?_;refine⟨s1.heap.objs.size,[s1.heap.objs.size],_,_,H1,rfl,I1.kept (t':=s1.toks) λb o e=>bD _ e,Q1 a _,⟨_,bO _ rfl,rfl,rfl⟩,λb hb=>?_,q⟩;have e:b=s1.heap.objs.size:=by simpa using hb
 subst e;exact I1.fpOk (aX _) (I1.hok.fresh (aX _))
theorem Kw{pins:List (Addr×Obj)}{σ:St}{H:Hp}{s:Shared}{R:It->Hp->Prop}{E:Value->Shared->Prop}{lo hi:Int}{t u v:Tok}{tk:Nat}(I:Inv X pins σ H s)(h1: -(2^62)<=lo)(h2:lo<2^62)(h3: -(2^62)<=hi)(h4:hi<2^62)
  (q:R (kZ lo (hi-lo).toNat) H):wpAny (model X.prog X.w) X.A (pyIter (.ref s.heap.objs.size)) (EE X pins σ tg R) E {s with heap:=s.heap.push {cls:=.type "range",data:=.fields #[.int lo t,.int hi u,.int 1 v]},toks:=tk}:=by
 refine wpAny_pyIter_range (IsRange.new ..) (small_one h1 h2 h3 h4) ?_;have I1:Inv X pins σ H {s with heap:=s.heap.push {cls:=.type "range",data:=.fields #[.int lo t,.int hi u,.int 1 v]},toks:=tk}:=I.kept λb o e=>bD _ e;refine⟨(s.heap.push {cls:=.type "range",data:=.fields #[.int lo t,.int hi u,.int 1 v]}).objs.size,[(s.heap.push {cls:=.type "range",data:=.fields #[.int lo t,.int hi u,.int 1 v]}).objs.size],_,_,H,rfl,
  I1.kept (t':=tk) λb o e=>bD _ e,Tq _ lo (hi-lo).toNat,?_,λb hb=>?_,q⟩
 ·have e1:lo+((0:Nat):Int)*1=lo:=by simp
  have e2:(((hi-lo).toNat:Nat):Int)-((0:Nat):Int)=Builtin.Range.rangeSize lo hi 1:=by rw[rangeSize_one];split<;>omega
  show IsRangeIter _ _ (lo+((0:Nat):Int)*1) ((((hi-lo).toNat:Nat):Int)-((0:Nat):Int)) 1;rw[e1,e2];exact bO _ rfl
 ·have e:b=(s.heap.push {cls:=.type "range",data:=.fields #[.int lo t,.int hi u,.int 1 v]}).objs.size:=by simpa using hb
  subst e;exact I1.fpOk (aX _) (I1.hok.fresh (aX _))
def IR(ta:TA):TI:=λσ H R=>ta σ H λvs H1=>∃j:Int,vs=[.int j]/\ -(2^62)<=j/\j<2^62/\R (kZ 0 j.toNat) H1
def Ec(ta:TA):TI:=λσ H R=>ta σ H λvs H1=>∃i j:Int,vs=[.int i,.int j]/\(-(2^62)<=i/\i<2^62/\ -(2^62)<=j/\j<2^62)/\R (kZ i (j-i).toNat) H1
theorem Xb{a:Expr}{ta:TA}{p pos:Pos}(hg:Gl X "range")(hm:X.mg "range"=none)(ha:PA X [a] ta)(hs:starEach [a] X.env=[(false,eval a X.env)]:=by rfl):PI X tg (.Call (.Name "range" p) [a] [] pos) (IR ta):=by
 intro pins s σ H R I h;refine Call_ (nV I hg hm boot_range (PyProof.Rows.callWith_type1 (eT (ha pos pins s σ H _ I h) λus s1 ⟨vs,H1,I1,r1,q1⟩=>?_) hs rfl));obtain⟨j,e,q1,q2,q⟩:=q1;subst e;cases r1 with
 |cons r rr=>
  cases rr;obtain⟨t,rfl⟩:=r;exact call_range_1 (Kw I1 ⋯ ⋯ q1 q2 (by simpa using q))
theorem YH{a b:Expr}{ta:TA}{p pos:Pos}(hg:Gl X "range")(hm:X.mg "range"=none)(ha:PA X [a,b] ta)(hs:starEach [a,b] X.env=[(false,eval a X.env),(false,eval b X.env)]:=by rfl)(hs2:starEach [b] X.env=[(false,eval b X.env)]:=by rfl):
  PI X tg (.Call (.Name "range" p) [a,b] [] pos) (Ec ta):=by
 intro pins s σ H R I h;refine Call_ (nV I hg hm boot_range (PyProof.Rows.callWith_type1 (eT (ha pos pins s σ H _ I h) λus s1 ⟨vs,H1,I1,r1,q1⟩=>?_) (by rw[hs,hs2]) (by rw[hs2];rfl)));obtain⟨i,j,e,⟨q1,q2,q3,q4⟩,q⟩:=q1;subst e;cases r1 with
 |cons r rr=>
  cases rr with
  |cons r' rr=>
   cases rr;obtain⟨t,rfl⟩:=r;obtain⟨t',rfl⟩:=r';exact call_range_2 (Kw I1 q1 q2 q3 q4 q)
def Fm(wi:TI)(g:TG)(tb:TS):TS:=λD σ H=>wi σ H λJ H1=>∃W:Nat->Nat->St->Hp->Prop,(∃m,W 0 m σ H1)/\∀i m σ H,W i m σ H->
 (J.stop i H/\D.nx σ H)∨(J.go i H/\∃N:St->Hp->Prop,(∀σ' H',N σ' H'->∃m',m'<m/\W (i+1) m' σ' H')/\∀x H',J.yld i H x H'->g x σ H' λσ2 H2=>tb {D with nx:=N,ct:=N,bk:=D.nx} σ2 H2)
noncomputable def pe(fp:List Addr)(h:Heap):List (Addr×Obj):=fp.filterMap λb=>(h.get? b).map λo=>(b,o)
theorem rj{fp:List Addr}{h:Heap}{b:Addr}{o:Obj}(hb:b∈fp)(e:h.get? b=some o):(b,o)∈pe fp h:=List.mem_filterMap.mpr ⟨b,hb,by rw[e];rfl⟩
theorem Pi{fp:List Addr}{h:Heap}{p:Addr×Obj}(hp:p∈pe fp h):p.1∈fp/\h.get? p.1=some p.2:=by
 obtain⟨b,hb,e⟩:=List.mem_filterMap.mp hp;cases q:h.get? b with
 |none=>rw[q] at e;cases e
 |some o=>
  rw[q] at e;have e':(b,o)=p:=bF e;subst e';exact⟨hb,q⟩
theorem Inv.pinned{pins:List (Addr×Obj)}{σ:St}{H:Hp}{s:Shared}{fp:List Addr}(I:Inv X pins σ H s)(hf:∀b∈fp,jM X pins H b)(ho:∀b∈fp,∃o,s.heap.get? b=some o/\∀v,o.data≠ .cell v):Inv X (pins++pe fp s.heap) σ H s:=
 I.pins_of λp hp=>(b9.mp hp).elim (λz=>I.pin p (cE _ z)) λz=>by
  obtain⟨hb,e⟩:=Pi z;obtain⟨f0,f1,f2,_⟩:=hf p.1 hb;obtain⟨o,e',d⟩:=ho p.1 hb;rw[e] at e';cases e';exact⟨e,f0,f1,f2,d⟩
theorem Inv.unpinned{pins pl:List (Addr×Obj)}{σ:St}{H:Hp}{s:Shared}(I:Inv X (pins++pl) σ H s):Inv X pins σ H s:=I.pins_of λp hp=>I.pin p (cE _ (List.mem_append_left _ hp))
theorem ZC{iter:Expr}{body:List Stmt}{wi:TI}{g:TG}{tb:TS}{pos:Pos}(hp:PassesOwn (model X.prog X.w) X.A X.env X.xe)(hc:X.calm=true)(hi:PI X tg iter wi)(hg:PG X tg g)(hb:PSs X body tb)
  (hs:∀x,foldedSetIterable iter X.env x=pure x:=by intro _;rfl):PS X (.For tg iter body [] pos) (Fm wi g tb):=by
 intro pins s σ H D I h;refine wpAny_For (eT (hi pins s σ H _ I h) λv s1 h1=>eT h1 λitv s2 h2=>?_) hs;obtain⟨it,fp,tn,J,H2,e,I2,T,st2,f2,W,⟨m0,w0⟩,turn⟩:=h2;subst e
 -- what stays true of the iterator's objects through the loop
 have stat:∀{H':Hp},(∀b∈fp,H' b=none)->∀b∈fp,jM X pins H' b:=λhn b hb=>⟨hn b hb,(f2 b hb).2⟩;refine codeAny_forLoop_any (λn s'=>∃i σ' H',Inv X pins σ' H' s'/\tn i s'.heap/\(∀b∈fp,H' b=none)/\W i n σ' H') ?_ m0 ⟨0,σ,H2,I2,st2,λb hb=>(f2 b hb).1,w0⟩;rintro n s3 ⟨i,σ3,H3,I3,st3,fr3,w3⟩;rcases turn i n σ3 H3 w3 with ⟨stop,qn⟩ | ⟨go,N,hN,step⟩
 ·refine dF hp (eT (T.done X rfl rfl rfl hc i pins s3 σ3 H3 X.xe I3 (stat fr3) st3 stop) λr s4 ⟨hr,I4⟩=>?_);subst hr;exact wpAny_execs_nil ⟨σ3,H3,I4,qn⟩
 ·refine dF hp (eT (T.item X rfl rfl rfl hc i pins s3 σ3 H3 X.xe I3 (stat fr3) st3 go) λr s4 ⟨u,hr,h4⟩=>?_);subst hr;refine dF hp (eT h4 λ_ s5 ⟨x,H5,I5,r5,y5,st5,fr5⟩=>?_);have I5':=I5.pinned (stat fr5) (T.obj _ _ st5);refine dF hp (eT (hg _ s5 σ3 H5 x u _ I5' r5 (step x H5 y5)) λ_ s6 ⟨σ6,H6,I6,q6⟩=>?_);refine dF hp (eT (hb _ s6 σ6 H6 _ I6 q6) λf s7 q7=>?_);have again:∀{σ7:St} {H7:Hp},Inv X (pins++pe fp s5.heap) σ7 H7 s7->N σ7 H7->∃m,m<n/\∃i σ' H',Inv X pins σ' H' s7/\tn i s7.heap/\(∀b∈fp,H' b=none)/\W i m σ' H':=λ{σ7 H7} I7 n7=>by
   obtain⟨m',hm,w7⟩:=hN σ7 H7 n7;refine⟨m',hm,i+1,σ7,H7,I7.unpinned,T.keep _ _ _ st5 λb hb o e=>(I7.pin (b,o) (cE _ (cE _ (rj hb e)))).1,λb hb=>?_,w7⟩;obtain⟨o,e,d⟩:=T.obj _ _ st5 b hb;exact (I7.pin (b,o) (cE _ (cE _ (rj hb e)))).2.1
  cases f with
  |next=>obtain⟨σ7,H7,I7,n7⟩:=q7;exact again I7 n7
  |cont=>obtain⟨σ7,H7,I7,n7⟩:=q7;exact again I7 n7
  |brk=>obtain⟨σ7,H7,I7,q7⟩:=q7;exact⟨σ7,H7,I7.unpinned,q7⟩
  |ret v=>obtain⟨x7,σ7,H7,I7,r7,q7⟩:=q7;exact⟨x7,σ7,H7,I7.unpinned,r7,q7⟩
end
theorem mM{K:FG}{a:Addr}{xs:List V}{g:TG}{tb:TS}{D:iw}{σ:St}{H:Hp}(Pv:Nat->St->Hp->Prop)(h0:Pv 0 σ H)(hl:∀i σ H,i<=xs.length->Pv i σ H->SqL K H a xs)
  (hs:∀i x σ H,xs[i]? =some x->Pv i σ H->g x σ H λσ2 H2=>tb {D with nx:=Pv (i+1),ct:=Pv (i+1),bk:=D.nx} σ2 H2) (hd:∀σ H,Pv xs.length σ H->D.nx σ H):
  ∃W:Nat->Nat->St->Hp->Prop,(∃m,W 0 m σ H)/\∀i m σ H,W i m σ H->
   ((mD K a).stop i H/\D.nx σ H)∨((mD K a).go i H/\∃N:St->Hp->Prop,(∀σ' H',N σ' H'->∃m',m'<m/\W (i+1) m' σ' H')/\∀x H',(mD K a).yld i H x H'->g x σ H' λσ2 H2=>tb {D with nx:=N,ct:=N,bk:=D.nx} σ2 H2):=by
 refine⟨λi m σ H=>m=xs.length-i/\i<=xs.length/\Pv i σ H,⟨xs.length,by simp,bK _,h0⟩,?_⟩;rintro i m σ H ⟨rfl,hi,p⟩;have q:=hl i σ H hi p;by_cases hlt:i<xs.length
 ·refine .inr ⟨⟨xs,xs[i],q,by simp[hlt]⟩,Pv (i+1),λσ' H' p'=>⟨xs.length-(i+1),⋯,rfl,hlt,p'⟩,λx H' y=>?_⟩;obtain⟨e,y⟩:=y;subst e;exact hs i x σ _ (y xs q) p
 ·have e:i=xs.length:=⋯;subst e;exact .inl ⟨⟨xs,q,aX _⟩,hd σ H p⟩
theorem AD{K:FG}{a:Addr}{xs:List V}{g:TG}{tb:TS}{D:iw}{σ:St}{H:Hp}(Pv:Nat->St->Hp->Prop)(h0:Pv 0 σ H)(hl:∀i σ H,i<=xs.length->Pv i σ H->SqT K H a xs)
  (hs:∀i x σ H,xs[i]? =some x->Pv i σ H->g x σ H λσ2 H2=>tb {D with nx:=Pv (i+1),ct:=Pv (i+1),bk:=D.nx} σ2 H2) (hd:∀σ H,Pv xs.length σ H->D.nx σ H):
  ∃W:Nat->Nat->St->Hp->Prop,(∃m,W 0 m σ H)/\∀i m σ H,W i m σ H->
   ((nH K a).stop i H/\D.nx σ H)∨((nH K a).go i H/\∃N:St->Hp->Prop,(∀σ' H',N σ' H'->∃m',m'<m/\W (i+1) m' σ' H')/\∀x H',(nH K a).yld i H x H'->g x σ H' λσ2 H2=>tb {D with nx:=N,ct:=N,bk:=D.nx} σ2 H2):=by
 refine⟨λi m σ H=>m=xs.length-i/\i<=xs.length/\Pv i σ H,⟨xs.length,by simp,bK _,h0⟩,?_⟩;rintro i m σ H ⟨rfl,hi,p⟩;have q:=hl i σ H hi p;by_cases hlt:i<xs.length
 ·refine .inr ⟨⟨xs,xs[i],q,by simp[hlt]⟩,Pv (i+1),λσ' H' p'=>⟨xs.length-(i+1),⋯,rfl,hlt,p'⟩,λx H' y=>?_⟩;obtain⟨e,y⟩:=y;subst e;exact hs i x σ _ (y xs q) p
 ·have e:i=xs.length:=⋯;subst e;exact .inl ⟨⟨xs,q,aX _⟩,hd σ H p⟩
theorem G8{lo:Int}{n:Nat}{g:TG}{tb:TS}{D:iw}{σ:St}{H:Hp}(Pv:Nat->St->Hp->Prop)(h0:Pv 0 σ H)
  (hs:∀i σ H,i<n->Pv i σ H->g (.int (lo+i)) σ H λσ2 H2=>tb {D with nx:=Pv (i+1),ct:=Pv (i+1),bk:=D.nx} σ2 H2) (hd:∀σ H,Pv n σ H->D.nx σ H):
  ∃W:Nat->Nat->St->Hp->Prop,(∃m,W 0 m σ H)/\∀i m σ H,W i m σ H->
   ((kZ lo n).stop i H/\D.nx σ H)∨((kZ lo n).go i H/\∃N:St->Hp->Prop,(∀σ' H',N σ' H'->∃m',m'<m/\W (i+1) m' σ' H')/\∀x H',(kZ lo n).yld i H x H'->g x σ H' λσ2 H2=>tb {D with nx:=N,ct:=N,bk:=D.nx} σ2 H2):=by
 refine⟨λi m σ H=>m=n-i/\i<=n/\Pv i σ H,⟨n,by simp,bK _,h0⟩,?_⟩;rintro i m σ H ⟨rfl,hi,p⟩;by_cases hlt:i<n
 ·refine .inr ⟨hlt,Pv (i+1),λσ' H' p'=>⟨n-(i+1),⋯,rfl,hlt,p'⟩,λx H' y=>?_⟩;obtain⟨e,y⟩:=y;subst e y;exact hs i σ _ hlt p
 ·have e:i=n:=⋯;subst e;exact .inl ⟨aX _,hd σ H p⟩
noncomputable abbrev R2:=V->V->Hp->VK->Prop
def gI(X:Cx)(f:Value->Value->Sem Value)(r:R2):Prop:=
 ∀(pins:List (Addr×Obj)) (s:Shared) (σ:St) (H:Hp) (x y:V) (v u:Value) (Q:VK),Inv X pins σ H s->RelV x v->RelV y u->r x y H Q->
  wpAny (model X.prog X.w) X.A (f v u) (EP X pins σ Q) X.xe s
def rC(X:Cx)(f:Value->Sem Value)(r:V->Hp->VK->Prop):Prop:=
 ∀(pins:List (Addr×Obj)) (s:Shared) (σ:St) (H:Hp) (x:V) (v:Value) (Q:VK),Inv X pins σ H s->RelV x v->r x H Q->
  wpAny (model X.prog X.w) X.A (f v) (EP X pins σ Q) X.xe s
def jN(X:Cx)(f:Value)(r:List V->Hp->VK->Prop):Prop:=
 ∀(pins:List (Addr×Obj)) (s:Shared) (σ:St) (H:Hp) (xs:List V) (us:List Value) (Q:VK),Inv X pins σ H s->Vals xs us->r xs H Q->
  wpAny (model X.prog X.w) X.A (call f us) (EP X pins σ Q) X.xe s
def mB(r:R2)(ta tb:TE):TE:=λσ H Q=>ta σ H λx H1=>tb σ H1 λy H2=>r x y H2 Q
def HB(r:V->Hp->VK->Prop)(ta:TE):TE:=λσ H Q=>ta σ H λx H1=>r x H1 Q
inductive WG (C:Int->Int->Prop) (g:Int->Int->V) (x y:V) (H:Hp) (Q:VK):Prop
 |mk (i j:Int) (a:x=.int i) (b:y=.int j) (c:C i j) (r:Q (g i j) H)
def rI(C:Int->Int->Prop)(g:Int->Int->V):R2:=WG C g
inductive VX (g:Int->Int->V) (x y:V) (H:Hp) (Q:VK):Prop
 |mk (i j:Int) (a:x=.int i) (b:y=.int j) (r:Q (g i j) H)
def jb(g:Int->Int->V):R2:=VX g
inductive QY (g:Int->V) (x:V) (H:Hp) (Q:VK):Prop
 |mk (i:Int) (a:x=.int i) (r:Q (g i) H)
def rU(g:Int->V):V->Hp->VK->Prop:=QY g
section
variable{X:Cx}{a b c:Expr}{ta tb tc:TE}{pos:Pos}
theorem yR(ha:PE X a ta)(hb:PE X b tb){pins:List (Addr×Obj)}{s:Shared}{σ:St}{H:Hp}{R:V->V->Hp->Prop}(I:Inv X pins σ H s)
  (h:ta σ H λx H1=>tb σ H1 λy H2=>R x y H2) {Q:Value->Shared->Prop} {f:Value->Value->Sem Value}
  (hf:∀v u s2 x y H2,Inv X pins σ H2 s2->RelV x v->RelV y u->R x y H2->wpAny (model X.prog X.w) X.A (f v u) Q X.xe s2):
  wpAny (model X.prog X.w) X.A (eval a X.env) (λv s₁=>wpAny (model X.prog X.w) X.A (eval b X.env) (λu s₂=>wpAny (model X.prog X.w) X.A (f v u) Q X.xe s₂) X.xe s₁) X.xe s:=by
 refine eT (ha pins s σ H _ I h) λv s1 ⟨x,H1,I1,r1,q1⟩=>?_;refine eT (hb pins s1 σ H1 _ I1 q1) λu s2 ⟨y,H2,I2,r2,q2⟩=>?_;exact hf v u s2 x y H2 I2 r1 r2 q2
theorem aOH{op:Operator}{r:R2}(ho:gI X (binaryOp op) r)(ha:PE X a ta)(hb:PE X b tb):PE X (.BinOp a op b pos) (mB r ta tb):=by
 intro pins s σ H Q I h;exact wpAny_BinOp (yR ha hb I h λv u s2 x y H2 I2 rx ry q=>ho pins s2 σ H2 x y v u Q I2 rx ry q)
theorem WC{op:UnaryOp}{r:V->Hp->VK->Prop}(ho:rC X (unaryOp op) r)(ha:PE X a ta):PE X (.UnaryOp op a pos) (HB r ta):=by
 intro pins s σ H Q I h;exact UnaryOp_ (eT (ha pins s σ H _ I h) λv s1 ⟨x,H1,I1,r1,q1⟩=>ho pins s1 σ H1 x v Q I1 r1 q1)
theorem mZ{f:Value->Value->Sem Value}{C:Int->Int->Prop}{g:Int->Int->Int}
  (rule:∀(i j:Int) (t u:Tok) (s:Shared) (Q:Value->Shared->Prop) (E:Value->Shared->Prop),C i j->Q (.int (g i j) s.toks) {s with toks:=s.toks+1}->wpAny (model X.prog X.w) X.A (f (.int i t) (.int j u)) Q E s):
  gI X f (rI C λi j=>.int (g i j)):=by
 intro pins s σ H x y v u Q I rx ry h;obtain⟨i,j,rfl,rfl,hc,q⟩:=h;obtain⟨t,rfl⟩:=rx;obtain⟨t',rfl⟩:=ry;exact rule i j t t' s _ _ hc ⟨.int (g i j),H,I.tok _,⟨()⟩,q⟩
theorem rX{f:Value->Value->Sem Value}{g:Int->Int->Int}
  (rule:∀(i j:Int) (t u:Tok) (s:Shared) (Q:Value->Shared->Prop) (E:Value->Shared->Prop),Q (.int (g i j) s.toks) {s with toks:=s.toks+1}->wpAny (model X.prog X.w) X.A (f (.int i t) (.int j u)) Q E s):
  gI X f (jb λi j=>.int (g i j)):=by
 intro pins s σ H x y v u Q I rx ry h;obtain⟨i,j,rfl,rfl,q⟩:=h;obtain⟨t,rfl⟩:=rx;obtain⟨t',rfl⟩:=ry;exact rule i j t t' s _ _ ⟨.int (g i j),H,I.tok _,⟨()⟩,q⟩
theorem rQ{f:Value->Value->Sem Value}{g:Int->Int->Bool}
  (rule:∀(i j:Int) (t u:Tok) (s:Shared) (Q:Value->Shared->Prop) (E:Value->Shared->Prop),Q (.bool (g i j)) s->wpAny (model X.prog X.w) X.A (f (.int i t) (.int j u)) Q E s):
  gI X f (jb λi j=>.bl (g i j)):=by
 intro pins s σ H x y v u Q I rx ry h;obtain⟨i,j,rfl,rfl,q⟩:=h;obtain⟨t,rfl⟩:=rx;obtain⟨t',rfl⟩:=ry;exact rule i j t t' s _ _ ⟨.bl (g i j),H,I,rfl,q⟩
def KN(i j:Int):Prop:=0<j/\j<1073741824
def qK(i j:Int):Prop:=0<=j/\j<=1000000/\i.natAbs<2^64
def CMul(i j:Int):Prop:=(-(2^64)<i/\i<2^64)∨(-(2^64)<j/\j<2^64)
theorem CMul.ok{i j:Int}(h:CMul i j):IntMulOk i j:=by
 rcases h with ⟨h1,h2⟩ | ⟨h1,h2⟩
 ·exact .of_left (intBits_le_64 h1 h2)
 ·exact .of_right (intBits_le_64 h1 h2)
theorem Vq(k:Nat):(0:Int)<=2^k:=by
 rw[two_pow_cast];exact cU _
theorem Rx:gI X (binaryOp .Add) (jb λi j=>.int (i+j)):=rX λ_ _ _ _ _ _ _ q=>add_int q
theorem VU:gI X (binaryOp .Sub) (jb λi j=>.int (i-j)):=rX λ_ _ _ _ _ _ _ q=>sub_int q
theorem Og:gI X (binaryOp .Mult) (rI CMul λi j=>.int (i*j)):=mZ λ_ _ _ _ _ _ _ hc q=>mul_int q hc.ok
theorem Pw:gI X (binaryOp .FloorDiv) (rI KN λi j=>.int (i / j)):=mZ λi j _ _ _ _ _ hc q=>by
 have h1:(0:Int)<j:=hc.1;have h2:j<1073741824:=hc.2;exact floordiv_int ⋯ (by rw[Int.fdiv_eq_ediv_of_nonneg i ⋯];exact q) (.inl (PyProof.noPylong_small ⋯))
theorem ZU:gI X (binaryOp .Mod) (rI (λ_ j=>0<j) λi j=>.int (i%j)):=mZ λi j _ _ _ _ _ hc q=>by
 have h1:(0:Int)<j:=hc;exact mod_int' ⋯ (by rw[Int.fmod_eq_emod_of_nonneg i ⋯];exact q)
theorem OD:gI X (binaryOp .Pow) (rI qK λi j=>.int (i^j.toNat)):=mZ λ_ _ _ _ _ _ _ hc q=>pow_int_small hc.1 hc.2.1 hc.2.2 q
theorem Tb:gI X (binaryOp .LShift) (rI qK λi j=>.int (i*2^j.toNat)):=mZ λ_ _ _ _ _ _ _ hc q=>lshift_int_small hc.1 hc.2.1 hc.2.2 q
theorem Wm:gI X (binaryOp .RShift) (rI (λ_ j=>0<=j) λi j=>.int (i / 2^j.toNat)):=mZ λi j _ _ _ _ _ hc q=>
 rshift_int hc (by rw[Int.fdiv_eq_ediv_of_nonneg i (Vq _)];exact q)
theorem Q2:gI X (binaryOp .BitAnd) (jb λi j=>.int (Builtin.bitAnd i j)):=rX λ_ _ _ _ _ _ _ q=>and_int q
theorem QE:gI X (binaryOp .BitOr) (jb λi j=>.int (Builtin.bitOr i j)):=rX λ_ _ _ _ _ _ _ q=>or_int q
theorem Vo{f:Value->Sem Value}{g:Int->Int}
  (rule:∀(i:Int) (t:Tok) (s:Shared) (Q:Value->Shared->Prop) (E:Value->Shared->Prop),Q (.int (g i) s.toks) {s with toks:=s.toks+1}->wpAny (model X.prog X.w) X.A (f (.int i t)) Q E s):
  rC X f (rU λi=>.int (g i)):=by
 intro pins s σ H x v Q I rx h;obtain⟨i,rfl,q⟩:=h;obtain⟨t,rfl⟩:=rx;exact rule i t s _ _ ⟨.int (g i),H,I.tok _,⟨()⟩,q⟩
theorem Nx:rC X (unaryOp .USub) (rU λi=>.int (-i)):=Vo λ_ _ _ _ _ q=>neg_int q
end
noncomputable def EZ:V->V->Bool
 |.non,.non=>true | .non,.int _=>true | .int _,.non=>true | .non,.bl _=>true | .bl _,.non=>true | .non,.str _=>true | .str _,.non=>true
 |.int _,.int _=>true | .bl _,.bl _=>true | .str _,.str _=>true | .byt _,.byt _=>true
 |.int _,.str _=>true | .str _,.int _=>true | .bl _,.str _=>true | .str _,.bl _=>true
 |_,_=>false
inductive TK (x y:V) (H:Hp) (Q:VK):Prop
 |mk (s:EZ x y=true) (r:Q (.bl (decide (x=y))) H)
def J0:R2:=TK
inductive QN (x y:V) (H:Hp) (Q:VK):Prop
 |mk (s:EZ x y=true) (r:Q (.bl (!decide (x=y))) H)
def Fu:R2:=QN
theorem IF{i j:Int}:decide (V.int i=V.int j)=(i==j):=by
 rw[cL];simp
theorem F5{i j:Bool}:decide (V.bl i=V.bl j)=(i==j):=by
 rw[cL];simp
theorem Iw{i j:Str}:decide (V.str i=V.str j)=(i==j):=by
 rw[cL];simp
theorem GI{i j:Array UInt8}:decide (V.byt i=V.byt j)=(i.toList==j.toList):=by
 rw[cL];cases i;cases j;simp
section
variable{X:Cx}{a b c:Expr}{ta tb tc:TE}{pos:Pos}
theorem gU{pins:List (Addr×Obj)}{σ:St}{H:Hp}{s:Shared}{Q:VK}{k k':Bool}(I:Inv X pins σ H s)(q:Q (.bl k) H)(e:k=k'):EP X pins σ Q (.bool k') s:=by
 subst e;exact⟨.bl k,H,I,rfl,q⟩
theorem PY:gI X (compareOp .Eq) J0:=by
 intro pins s σ H x y v u Q I rx ry h;obtain⟨hs,q⟩:=h;cases x with
 |non=>
  cases rx;cases y with
  |non=>cases ry;exact PySem.EqNone.eq_none_none (gU I q (by simp))
  |bl j=>cases ry;exact PySem.EqNone.eq_none_bool (gU I q (by simp))
  |int j=>obtain⟨t',rfl⟩:=ry;exact PySem.EqNone.eq_none_int (gU I q (by simp))
  |str j=>obtain⟨t',rfl⟩:=ry;exact PySem.EqNone.eq_none_str (gU I q (by simp))
  |_=>exact absurd (show false=true from hs) bG
 |bl i=>
  cases rx;cases y with
  |non=>cases ry;exact PySem.EqNone.eq_bool_none (gU I q (by simp))
  |bl j=>cases ry;exact eq_bool (gU I q F5)
  |str j=>obtain⟨t',rfl⟩:=ry;exact PySem.EqMixed.eq_bool_str (gU I q (by simp))
  |_=>exact absurd (show false=true from hs) bG
 |int i=>
  obtain⟨t,rfl⟩:=rx;cases y with
  |non=>cases ry;exact PySem.EqNone.eq_int_none (gU I q (by simp))
  |int j=>obtain⟨t',rfl⟩:=ry;exact eq_int (gU I q IF)
  |str j=>obtain⟨t',rfl⟩:=ry;exact PySem.EqMixed.eq_int_str (gU I q (by simp))
  |_=>exact absurd (show false=true from hs) bG
 |str i=>
  obtain⟨t,rfl⟩:=rx;cases y with
  |non=>cases ry;exact PySem.EqNone.eq_str_none (gU I q (by simp))
  |bl j=>cases ry;exact PySem.EqMixed.eq_str_bool (gU I q (by simp))
  |int j=>obtain⟨t',rfl⟩:=ry;exact PySem.EqMixed.eq_str_int (gU I q (by simp))
  |str j=>obtain⟨t',rfl⟩:=ry;exact eq_str (gU I q Iw)
  |_=>exact absurd (show false=true from hs) bG
 |byt i=>
  obtain⟨t,rfl⟩:=rx;cases y with
  |byt j=>obtain⟨t',rfl⟩:=ry;exact PySem.W.eq_bytes (gU I q GI)
  |_=>exact absurd (show false=true from hs) bG
 |_=>cases y<;>exact absurd (show false=true from hs) bG
theorem S6:gI X (compareOp .NotEq) Fu:=by
 intro pins s σ H x y v u Q I rx ry h;obtain⟨hs,q⟩:=h;cases x with
 |non=>
  cases rx;cases y with
  |non=>cases ry;exact PySem.EqNone.ne_none_none (gU I q (by simp))
  |bl j=>cases ry;exact PySem.EqNone.ne_none_bool (gU I q (by simp))
  |int j=>obtain⟨t',rfl⟩:=ry;exact PySem.EqNone.ne_none_int (gU I q (by simp))
  |str j=>obtain⟨t',rfl⟩:=ry;exact PySem.EqNone.ne_none_str (gU I q (by simp))
  |_=>exact absurd (show false=true from hs) bG
 |bl i=>
  cases rx;cases y with
  |non=>cases ry;exact PySem.EqNone.ne_bool_none (gU I q (by simp))
  |bl j=>cases ry;exact ne_bool (gU I q (congrArg not F5))
  |str j=>obtain⟨t',rfl⟩:=ry;exact PySem.EqMixed.ne_bool_str (gU I q (by simp))
  |_=>exact absurd (show false=true from hs) bG
 |int i=>
  obtain⟨t,rfl⟩:=rx;cases y with
  |non=>cases ry;exact PySem.EqNone.ne_int_none (gU I q (by simp))
  |int j=>obtain⟨t',rfl⟩:=ry;exact ne_int (gU I q (congrArg not IF))
  |str j=>obtain⟨t',rfl⟩:=ry;exact PySem.EqMixed.ne_int_str (gU I q (by simp))
  |_=>exact absurd (show false=true from hs) bG
 |str i=>
  obtain⟨t,rfl⟩:=rx;cases y with
  |non=>cases ry;exact PySem.EqNone.ne_str_none (gU I q (by simp))
  |bl j=>cases ry;exact PySem.EqMixed.ne_str_bool (gU I q (by simp))
  |int j=>obtain⟨t',rfl⟩:=ry;exact PySem.EqMixed.ne_str_int (gU I q (by simp))
  |str j=>obtain⟨t',rfl⟩:=ry;exact ne_str (gU I q (congrArg not Iw))
  |_=>exact absurd (show false=true from hs) bG
 |byt i=>
  obtain⟨t,rfl⟩:=rx;cases y with
  |byt j=>obtain⟨t',rfl⟩:=ry;exact PySem.W.ne_bytes (gU I q (congrArg not GI))
  |_=>exact absurd (show false=true from hs) bG
 |_=>cases y<;>exact absurd (show false=true from hs) bG
theorem V6:gI X (compareOp .Lt) (jb λi j=>.bl (decide (i<j))):=rQ λ_ _ _ _ _ _ _ q=>lt_int q
theorem K6:gI X (compareOp .LtE) (jb λi j=>.bl (decide (i<=j))):=rQ λ_ _ _ _ _ _ _ q=>le_int q
theorem We:gI X (compareOp .Gt) (jb λi j=>.bl (decide (j<i))):=rQ λ_ _ _ _ _ _ _ q=>gt_int q
theorem Qj:gI X (compareOp .GtE) (jb λi j=>.bl (decide (j<=i))):=rQ λ_ _ _ _ _ _ _ q=>ge_int q
theorem azC:gI X (compareOp .In) (λx y H Q=>∃i j,x=.str i/\y=.str j/\Q (.bl (!(Builtin.Str.occurrences j i 0 j.length 1).isEmpty)) H):=by
 intro pins s σ H x y v u Q I rx ry h;obtain⟨i,j,rfl,rfl,q⟩:=h;obtain⟨t,rfl⟩:=rx;obtain⟨t',rfl⟩:=ry;exact in_str (gU I q rfl)
theorem VR:gI X (compareOp .Is) (λx y H Q=>y=.non/\Q (.bl (decide (x=.non))) H):=by
 intro pins s σ H x y v u Q I rx ry h;obtain⟨rfl,q⟩:=h;cases ry;refine is_none_gen (gU I q ?_);cases x<;>first
  |(cases rx;rfl)
  |(obtain⟨t,rfl⟩:=rx;rfl)
theorem aEP:gI X (compareOp .IsNot) (λx y H Q=>y=.non/\Q (.bl (!decide (x=.non))) H):=by
 intro pins s σ H x y v u Q I rx ry h;obtain⟨rfl,q⟩:=h;cases ry;refine isnot_none_gen (gU I q ?_);cases x<;>first
  |(cases rx;rfl)
  |(obtain⟨t,rfl⟩:=rx;rfl)
theorem EB(b:Expr){op:CmpOp}(h:op≠ .In:=by decide)(h2:op≠ .NotIn:=by decide):behindInMarks op b=false:=by
 have e1:(op==CmpOp.In)=false:=by cases op<;>first | rfl | exact absurd rfl h
 have e2:(op==CmpOp.NotIn)=false:=by cases op<;>first | rfl | exact absurd rfl h2
 cases b<;>simp[behindInMarks,e1,e2]
theorem T9{op:CmpOp}{r:R2}(ho:gI X (compareOp op) r)(ha:PE X a ta)(hb:PE X b tb)(hm:behindInMarks op b=false):PE X (.Compare a [op] [b] pos) (mB r ta tb):=by
 intro pins s σ H Q I h;exact wpAny_Compare1 (yR ha hb I h λv u s2 x y H2 I2 rx ry q=>ho pins s2 σ H2 x y v u Q I2 rx ry q) hm
def rO(t:TE):TT:=λσ H Q=>t σ H λx H'=>oI x H' Q
theorem aDR{op:CmpOp}{r:R2}(ho:gI X (compareOp op) r)(ha:PE X a ta)(hb:PE X b tb)(hm:behindInMarks op b=false):PT X (.Compare a [op] [b] pos) (rO (mB r ta tb)):=by
 intro pins s σ H Q I h;refine wpAny_isTrue_Compare1 (eT (ha pins s σ H _ I h) λv s1 ⟨x,H1,I1,r1,q1⟩=>eT (hb pins s1 σ H1 _ I1 q1) λu s2 ⟨y,H2,I2,r2,q2⟩=>
  eT (ho pins s2 σ H2 x y v u _ I2 r1 r2 q2) λc s3 ⟨z,H3,I3,r3,k,e,q3⟩=>?_) hm
 subst e;cases r3;exact dU ⟨H3,I3,q3⟩
def rD(r r':R2)(ta tb tc:TE):TE:=λσ H Q=>ta σ H λx H1=>tb σ H1 λy H2=>r x y H2 λz H3=>∃k,z=.bl k/\
 (if k=true then tc σ H3 λw' H4=>r' y w' H4 Q else Q (.bl false) H3)
theorem WV{op op':CmpOp}{r r':R2}(ho:gI X (compareOp op) r)(ho':gI X (compareOp op') r')(ha:PE X a ta)(hb:PE X b tb)(hc:PE X c tc)
  (hm:lastMarks [op,op'] [b,c]=false:=by with_unfolding_all rfl):PE X (.Compare a [op,op'] [b,c] pos) (rD r r' ta tb tc):=by
 intro pins s σ H Q I h;refine Compare_chain (eT (ha pins s σ H _ I h) λv s1 ⟨x,H1,I1,r1,q1⟩=>chain_link (eT (hb pins s1 σ H1 _ I1 q1) λu s2 ⟨y,H2,I2,r2,q2⟩=>
  eT (ho pins s2 σ H2 x y v u _ I2 r1 r2 q2) λd s3 ⟨z,H3,I3,r3,k,e,q3⟩=>?_)) hm
 subst e;cases r3;refine dU ?_;cases k with
 |false=>exact ite_ff ⟨.bl false,H3,I3,rfl,q3⟩
 |true=>exact ite_tt (chain_last (eT (hc pins s3 σ H3 _ I3 q3) λw' s4 ⟨z',H4,I4,r4,q4⟩=>ho' pins s4 σ H4 y z' u w' Q I4 r2 r4 q4))
theorem Mf{op op':CmpOp}{r r':R2}(ho:gI X (compareOp op) r)(ho':gI X (compareOp op') r')(ha:PE X a ta)(hb:PE X b tb)(hc:PE X c tc)
  (hm:lastMarks [op,op'] [b,c]=false:=by with_unfolding_all rfl):PT X (.Compare a [op,op'] [b,c] pos) (rO (rD r r' ta tb tc)):=by
 intro pins s σ H Q I h;refine isTrue_chain (eT (ha pins s σ H _ I h) λv s1 ⟨x,H1,I1,r1,q1⟩=>test_link (eT (hb pins s1 σ H1 _ I1 q1) λu s2 ⟨y,H2,I2,r2,q2⟩=>
  eT (ho pins s2 σ H2 x y v u _ I2 r1 r2 q2) λd s3 ⟨z,H3,I3,r3,k,e,q3⟩=>?_)) hm
 subst e;cases r3;refine dU ?_;cases k with
 |false=>
  obtain⟨k',e',q'⟩:=q3;cases e';exact ite_ff ⟨H3,I3,q'⟩
 |true=>
  refine ite_tt (test_last (eT (hc pins s3 σ H3 _ I3 q3) λw' s4 ⟨z',H4,I4,r4,q4⟩=>eT (ho' pins s4 σ H4 y z' u w' _ I4 r2 r4 q4) λd' s5 ⟨z2,H5,I5,r5,k2,e2,q5⟩=>?_));subst e2;cases r5;exact dU ⟨H5,I5,q5⟩
theorem ni:(sizeLine:Nat)<2^63:=by rw[dI];decide
theorem OK:gI X (binaryOp .Add) (λx y H Q=>∃i j,x=.str i/\y=.str j/\i.length+j.length<=sizeLine/\Q (.str (i++j)) H):=by
 intro pins s σ H x y v u Q I rx ry h;obtain⟨i,j,rfl,rfl,hz,q⟩:=h;obtain⟨t,rfl⟩:=rx;obtain⟨t',rfl⟩:=ry;exact add_str (λt' tk=>⟨.str (i++j),H,I.tok _,⟨()⟩,q⟩) hz
theorem jh{x:V}{us:List Value}(r:Vals [x] us):∃u,us=[u]/\RelV x u:=by
 cases r with
 |cons r1 r2=>cases r2;exact⟨(),r1⟩
theorem m7{x y:V}{us:List Value}(r:Vals [x,y] us):∃u w',us=[u,w']/\RelV x u/\RelV y w':=by
 cases r with
 |cons r1 r2=>
  cases r2 with
  |cons r3 r4=>cases r4;exact⟨_,(),r1,r3⟩
theorem aBF:jN X (.builtin "abs") (λxs H Q=>∃i,xs=[.int i]/\Q (.int (if i<0 then -i else i)) H):=by
 intro pins s σ H xs us Q I r h;obtain⟨i,rfl,q⟩:=h;obtain⟨u,rfl,t,rfl⟩:=jh r;exact call_abs_int λu tk=>⟨.int (if i<0 then -i else i),H,I.tok _,⟨()⟩,q⟩
theorem Vv(hc:X.calm=true):jN X (.builtin "max") (λxs H Q=>∃i j,xs=[.int i,.int j]/\Q (.int (if j>i then j else i)) H):=by
 intro pins s σ H xs us Q I r h;obtain⟨i,j,rfl,q⟩:=h;obtain⟨u,w',rfl,⟨t,rfl⟩,⟨t',rfl⟩⟩:=m7 r;refine max_two_ints (I.ok.hd hc) λh' tk k=>⟨_,H,I.kept k,?_,q⟩;by_cases hj:j>i
 ·rw[if_pos hj,if_pos hj];exact⟨()⟩
 ·rw[if_neg hj,if_neg hj];exact⟨()⟩
theorem Wi(hc:X.calm=true):jN X (.builtin "min") (λxs H Q=>∃i j,xs=[.int i,.int j]/\Q (.int (if j<i then j else i)) H):=by
 intro pins s σ H xs us Q I r h;obtain⟨i,j,rfl,q⟩:=h;obtain⟨u,w',rfl,⟨t,rfl⟩,⟨t',rfl⟩⟩:=m7 r;refine min_two_ints (I.ok.hd hc) λh' tk k=>⟨_,H,I.kept k,?_,q⟩;by_cases hj:j<i
 ·rw[if_pos hj,if_pos hj];exact⟨()⟩
 ·rw[if_neg hj,if_neg hj];exact⟨()⟩
theorem Xn:jN X (.type "str") (λxs H Q=>∃i,xs=[.int i]/\i.natAbs.log2<1920/\Q (.str (toString i)) H):=by
 intro pins s σ H xs us Q I r h;obtain⟨i,rfl,hz,q⟩:=h;obtain⟨u,rfl,t,rfl⟩:=jh r;exact PySem.P.str_of_int hz ⟨.str _,H,I.tok _,⟨()⟩,q⟩
end
structure ObjM(h:Heap)(x dx C:Addr)(mA:Str->Option Value):Prop where
 obj:h.get? x=some (PySem.W.instObj C dx)
 ns:h.Ns1 dx mA
 ne:dx≠x
theorem azV{h:Heap}{dx:Addr}{mA:Str->Option Value}(n:h.Ns1 dx mA):∃od,h.get? dx=some od/\∀name,PySem.W.lookIn name od=some (mA name):=by
 obtain⟨o,es,ep,ho,hd,hk,_,hm⟩:=n;refine⟨o,ho,λname=>?_⟩;have e:=hm name;unfold nsFind findBy at e;rw[←Array.find?_toList] at e;unfold PySem.W.lookIn;rw[hd];dsimp only;split
 ·rename_i y q;rw[q] at e;exact congrArg some e
 ·rename_i q;rw[q] at e;have a:es.toList.any (·.refKey)=false:=by
   rw[cV];intro y hy;obtain⟨z,t,hkey⟩:=hk y (Array.mem_toList_iff.mp hy);simp[DictEntry.refKey,hkey]
  have a':¬es.toList.any (·.refKey)=true:=by rw[a];exact bG
  rw[if_neg a'];exact congrArg some e
theorem ObjM.look{h:Heap}{x dx C:Addr}{mA:Str->Option Value}(I:ObjM h x dx C mA):∃od,PySem.W.InstAt h x (PySem.W.instObj C dx) C (some od)/\∀name,PySem.W.lookIn name od=some (mA name):=
 let ⟨od,ho,hl⟩:=azV I.ns
 ⟨od,⟨I.obj,rfl,rfl,ho⟩,hl⟩
section
variable{prog:Program}{w:World}{A:Around}{E:Value->Shared->Prop}{s:Shared}{K:FG}{x dx C f:Addr}{mA:Str->Option Value}{name:Str}{v:Value}
theorem Ry{expr:Bool}{Q:Value->Shared->Prop}(X:K.In s.heap)(I:ObjM s.heap x dx C mA)(hg:PySem.W.plainGet K C name=true)(hh:PySem.W.hasDictIn K C=true)
  (ha:PySem.W.findIn K (.ref C) name=some none) (hv:mA name=some v) (hv':PySem.W.handedIn v=true) (h:Q v {s with toks:=s.toks+1}):
  wpAny (model prog w) A (getAttr (.ref x) name expr) Q E s:=by
 obtain⟨od,J,hl⟩:=I.look;exact PySem.W.get_value X J (PySem.W.plainGet_of hg).1 (PySem.W.findObj_own hh ha rfl (by rw[hl,hv])) hv' h
theorem Tv{pl:Sem Bool}{Q:Value×List Value->Shared->Prop}(X:K.In s.heap)(I:ObjM s.heap x dx C mA)(hg:PySem.W.plainGet K C name=true)
  (hf:PySem.W.findIn K (.ref C) name=some (some (.ref f))) (ht:PySem.W.isFn K (.ref f)=true) (hv:mA name=none) (h:Q (.ref f,[.ref x]) s):
  wpAny (model prog w) A (getMethod (.ref x) name pl) Q E s:=by
 obtain⟨od,J,hl⟩:=I.look;exact PySem.W.method_fn X J (PySem.W.plainGet_of hg).1 (PySem.W.plainGet_of hg).2 hf (beq_iff_eq.mp ht) (by show (PySem.W.lookIn name od).map (·.isSome)=some false;rw[hl,hv];rfl) h
theorem Sy{ns:List Str}{Q:Unit->Shared->Prop}(X:K.In s.heap)(I:ObjM s.heap x dx C mA)
  (hs:PySem.W.findIn K (.ref C) "__setattr__"=some (some (.builtin "object.__setattr__"))) (hp:PySem.W.plainOver K C=true) (ht:PySem.W.takerIn K C name=some none) (hh:PySem.W.hasDictIn K C=true)
  (hw:PySem.Within mA ns) (hsz:ns.length<=sizeLine)
  (h:∀h',ObjM h' x dx C (λy=>if y=name then some v else mA y)->Heap.SameBut dx s.heap h'->Q () {s with heap:=h',toks:=s.toks+2}):
  wpAny (model prog w) A (setAttr (.ref x) name v) Q E s:=by
 obtain⟨od,J,hl⟩:=I.look;refine PySem.W.set_plain X J hs (PySem.W.osa_open (s:={s with toks:=s.toks+1}) (r:=none) X J hp ht λb=>?_);obtain⟨cd,hc,hd'⟩:=PySem.W.any_some hh;have hx:s.heap.get? x=some ⟨.ref C,some dx,.plain,#[]⟩:=I.obj;refine dG (dR (dG (dG (wpAny_loadPart hx (dG (PySem.W.Looks.here (s:={s with toks:=s.toks+1}) (PySem.W.looks_clsIn X hc) ?_))))));rw[hd'];refine dR (a:=some dx) (dG (dR (dG ?_)))
 refine wpAny_nsSet1 (s:={s with toks:=s.toks+1}) I.ns λh' hn2 hs2=>?_;obtain⟨oD,esD,epD,hoD,hdD,hcD⟩:=hn2.count (PySem.Within.cons name v hw);refine dG (wpAny_lookBehind hoD (by rw[hdD];exact pastItsLine_dict (bR hcD (by rw[bX];omega))) ?_);exact dR (h _ ⟨(hs2.2 _ (Ne.symm I.ne)).trans I.obj,hn2,I.ne⟩ hs2)
theorem Wl{R:Result->Shared->Prop}{vs:List Value}{kw:List (Str×Value)}(X:K.In s.heap)(hm:PySem.W.makesIn K C=true)
  (hi:PySem.W.findIn K (.ref C) "__init__"=some (some (.ref f))) (hf:PySem.W.typeIn K (.ref f)=some (.type "function"))
  (h:codeAny (model prog w) (A.under (.builtin "type.__call__" ⟨.ref C::vs,kw⟩)) (.call (.ref f) ⟨.ref (s.heap.objs.size+1)::vs,kw⟩) (PySem.W.InitBack (s.heap.objs.size+1) R)
   {s with heap:=(s.heap.push PySem.W.emptyDict).push (PySem.W.instObj C s.heap.objs.size)}):
  codeAny (model prog w) A (.call (.ref C) ⟨vs,kw⟩) R s:=by
 obtain⟨hh,g,d,t,os⟩:=s;exact PySem.W.make_core (PySem.W.makes_of X hm) (PySem.W.looks_findIn X hi) (λself=>PySem.W.bind_fn X self hf) (.inl rfl) h
theorem azX{R:Result->Shared->Prop}(X:K.In s.heap)(hm:PySem.W.makesIn K C=true)
  (hi:PySem.W.findIn K (.ref C) "__init__"=some (some (.builtin "object.__init__")))
  (hb:∀self,PySem.W.Looks (model prog w) s.heap (bindSpecial (.builtin "object.__init__") self) (.builtin "object.__init__",[self]))
  (h:codeAny (model prog w) (A.under (.builtin "type.__call__" ⟨[.ref C],[]⟩)) (.call (.builtin "object.__init__") ⟨[.ref (s.heap.objs.size+1)],[]⟩) (PySem.W.InitBack (s.heap.objs.size+1) R)
   {s with heap:=(s.heap.push PySem.W.emptyDict).push (PySem.W.instObj C s.heap.objs.size)}):
  codeAny (model prog w) A (.call (.ref C) ⟨[],[]⟩) R s:=by
 obtain⟨hh,g,d,t,os⟩:=s;exact PySem.W.make_core (PySem.W.makes_of X hm) (PySem.W.looks_findIn X hi) hb (.inr ⟨rfl,rfl⟩) h
end
noncomputable def fF(f:Str)(v:V):List (Str×V)->List (Str×V)
 |[]=>[(f,v)]
 |(g,x)::r=>if g=f then (g,v)::r else (g,x)::fF f v r
theorem fH(f g:Str)(v:V):∀fs:List (Str×V),(fF f v fs).lookup g=if g=f then some v else fs.lookup g
 |[]=>by
  show List.lookup g [(f,v)]=_;by_cases h:g=f
  ·have hb:(g==f)=true:=beq_iff_eq.mpr h;simp only[List.lookup,hb,if_pos h]
  ·have hb:(g==f)=false:=beq_eq_false_iff_ne.mpr h;simp only[List.lookup,hb,if_neg h]
 |(k,x)::r=>by
  have ih:=fH f g v r;rw[show fF f v ((k,x)::r)=(if k=f then (k,v)::r else (k,x)::fF f v r) from rfl];by_cases hk:k=f
  ·rw[if_pos hk];by_cases h:g=k
   ·have hb:(g==k)=true:=beq_iff_eq.mpr h;simp only[List.lookup,hb,if_pos (h.trans hk)]
   ·have hb:(g==k)=false:=beq_eq_false_iff_ne.mpr h;simp only[List.lookup,hb,if_neg (λe:g=f=>h (e.trans hk.symm))]
  ·rw[if_neg hk];by_cases h:g=k
   ·have hb:(g==k)=true:=beq_iff_eq.mpr h;simp only[List.lookup,hb,if_neg (λe:g=f=>hk (h.symm.trans e))]
   ·have hb:(g==k)=false:=beq_eq_false_iff_ne.mpr h;simp only[List.lookup,hb];exact ih
theorem DE(f:Str)(v:V):∀fs:List (Str×V),f∈(fF f v fs).map (·.1)/\∀g,g∈fs.map (·.1)->g∈(fF f v fs).map (·.1)
 |[]=>⟨by simp[fF],λg h=>by simp at h⟩
 |(k,x)::r=>by
  obtain⟨i1,i2⟩:=DE f v r;rw[show fF f v ((k,x)::r)=(if k=f then (k,v)::r else (k,x)::fF f v r) from rfl];by_cases hk:k=f
  ·rw[if_pos hk];subst hk;exact⟨by simp,λg h=>by simpa using h⟩
  ·rw[if_neg hk];refine⟨?_,λg h=>?_⟩
   ·rw[bM];exact bP _ i1
   ·rw[bM] at h ⊢;rcases bA.mp h with e | e
    ·exact bA.mpr (.inl e)
    ·exact bP _ (i2 g e)
theorem Eo(f:Str)(v:V):∀fs:List (Str×V),(fF f v fs).length<=fs.length+1
 |[]=>by simp[fF]
 |(k,x)::r=>by
  have ih:=Eo f v r;rw[show fF f v ((k,x)::r)=(if k=f then (k,v)::r else (k,x)::fF f v r) from rfl];by_cases hk:k=f
  ·rw[if_pos hk,bX,bX];omega
  ·rw[if_neg hk,bX,bX];omega
theorem RelO.some_of{v:V}{o:Option Value}(r:RelO (some v) o):∃u,o=some u/\RelV v u:=by
 cases o with
 |none=>exact (show False from r).elim
 |some u=>exact⟨u,rfl,r⟩
theorem RelO.none_of{o:Option Value}(r:RelO none o):o=none:=by
 cases o with
 |none=>rfl
 |some u=>exact (show False from r).elim
theorem TN{v:V}{u:Value}(r:RelV v u):PySem.W.handedIn u=true:=by
 cases v with
 |non=>cases (show u=Value.none from r);rfl
 |bl b=>cases (show u=Value.bool b from r);rfl
 |int i=>obtain⟨t,e⟩:=(show ∃t,u=Value.int i t from r);cases e;rfl
 |str x=>obtain⟨t,e⟩:=(show ∃t,u=Value.str x t from r);cases e;rfl
 |byt b=>obtain⟨t,e⟩:=(show ∃t,u=Value.bytes b t from r);cases e;rfl
 |flt b=>obtain⟨t,e⟩:=(show ∃t,u=Value.float b t from r);cases e;rfl
 |ref a=>cases (show u=Value.ref a from r);rfl
 |ty n=>cases (show u=Value.type n from r);rfl
section
variable{P:Program}{w:World}{H H':Hp}{h h':Heap}{a C dx:Addr}{fs fs':List (Str×V)}
theorem pI(hok:HOk P w H h)(e:H a=some (.ins C dx fs)):∃mA,ObjM h a dx C mA/\(∀f,RelO (fs.lookup f) (mA f))/\PySem.Within mA (fs.map (·.1))/\fs.length<=1000/\H dx=some (.own a):=by
 obtain⟨d,z,ne,ob,mA,n,r,q⟩:=(show ObjOk P w H h a (.ins C dx fs) from hok a _ e);exact⟨mA,⟨ob,n,ne⟩,r,q,z,d⟩
end
structure Cls(K:FG)(C:Addr):Prop where
 pg:PySem.W.plainGet K C Str.empty=true
 hd:PySem.W.hasDictIn K C=true
 po:PySem.W.plainOver K C=true
 sa:PySem.W.findIn K (.ref C) "__setattr__"=some (some (.builtin "object.__setattr__"))
theorem Cls.get{K:FG}{C:Addr}(c:Cls K C)(f:Str):PySem.W.plainGet K C f=true:=c.pg
def NoAttr(K:FG)(C:Addr)(f:Str):Prop:=PySem.W.findIn K (.ref C) f=some none
theorem NoAttr.taker{K:FG}{C:Addr}{f:Str}(n:NoAttr K C f):PySem.W.takerIn K C f=some none:=by
 unfold PySem.W.takerIn;rw[show PySem.W.findIn K (.ref C) f=some none from n];rfl
structure jF(K:FG)(C:Addr)(m:Str)(f:Addr):Prop where
 at_:PySem.W.findIn K (.ref C) m=some (some (.ref f))
 fn:PySem.W.isFn K (.ref f)=true
 kp:PySem.W.keepIn K (.ref f)=true
section
variable{X:Cx}{pins:List (Addr×Obj)}{σ:St}{H:Hp}{s:Shared}{a C dx:Addr}{fs:List (Str×V)}{f:Str}{v:V}{A:Around}{E:Value->Shared->Prop}
theorem awI{b:Bool}{Q:Value->Shared->Prop}(I:Inv X pins σ H s)(e:H a=some (.ins C dx fs))(c:Cls X.K C)(n:NoAttr X.K C f)(l:fs.lookup f=some v)
  (h:∀u s',Inv X pins σ H s'->RelV v u->Q u s'):wpAny (model X.prog X.w) A (getAttr (.ref a) f b) Q E s:=by
 obtain⟨mA,O,r,_,_,_⟩:=pI I.hok e;obtain⟨u,hu,ru⟩:=RelO.some_of (v:=v) (o:=mA f) (by rw[←l];exact r f);exact Ry I.kIn O (c.get f) c.hd n hu (TN ru) (h u _ (I.tok _) ru)
theorem JZ{m:Str}{g:Addr}{pl:Sem Bool}{Q:Value×List Value->Shared->Prop}(I:Inv X pins σ H s)(e:H a=some (.ins C dx fs))(c:Cls X.K C)(k:jF X.K C m g)(l:fs.lookup m=none)
  (h:Q (.ref g,[.ref a]) s):wpAny (model X.prog X.w) A (getMethod (.ref a) m pl) Q E s:=by
 obtain⟨mA,O,r,_,_,_⟩:=pI I.hok e;have hn:mA m=none:=RelO.none_of (by rw[←l];exact r m);exact Tv I.kIn O (c.get m) k.at_ k.fn hn h
theorem UR{y:V}{u:Value}{Q:Unit->Shared->Prop}(I:Inv X pins σ H s)(e:H a=some (.ins C dx fs))(c:Cls X.K C)(n:NoAttr X.K C f)(hl:fs.length<1000)(ry:RelV y u)
  (h:∀s',Inv X pins σ (upd H a (.ins C dx (fF f y fs))) s'->Q () s'):wpAny (model X.prog X.w) A (setAttr (.ref a) f u) Q E s:=by
 obtain⟨mA,O,r,wi,_,ho⟩:=pI I.hok e;have hz:(fs.map (·.1)).length<=sizeLine:=by rw[aY,dI];omega
 refine Sy I.kIn O c.sa c.po n.taker c.hd wi hz λh' O' sb=>h _ ?_;have hd:∃o,h'.get? dx=some o:=let ⟨o,_,_,e',_⟩:=O'.ns;⟨o,e'⟩;refine I.write (x:=a) (e:=dx) (by rw[e];exact True.intro) (.inr ho) (λb q hb z=>(sb.2 b hb).trans z) hd ?_;refine⟨by rw[eQ O.ne];exact ho,?_,O.ne,O'.obj,_,O'.ns,λg=>?_,λg hg=>?_⟩
 ·have:=Eo f y fs;omega
 ·show RelO ((fF f y fs).lookup g) (if g=f then some u else mA g);rw[fH];by_cases q:g=f
  ·rw[if_pos q,if_pos q];exact ry
  ·rw[if_neg q,if_neg q];exact r g
 ·by_cases q:g=f
  ·rw[q];exact (DE f y fs).1
  ·refine (DE f y fs).2 g (wi g λz=>hg ?_);show (if g=f then some u else mA g)=none;rw[if_neg q];exact z
theorem Inv.made(I:Inv X pins σ H s):Inv X pins σ (upd (upd H s.heap.objs.size (.own (s.heap.objs.size+1))) (s.heap.objs.size+1) (.ins C s.heap.objs.size []))
  {s with heap:=(s.heap.push PySem.W.emptyDict).push (PySem.W.instObj C s.heap.objs.size)}:=by
 have e1:(s.heap.push PySem.W.emptyDict).get? s.heap.objs.size=some PySem.W.emptyDict:=bO s.heap rfl;have e2:((s.heap.push PySem.W.emptyDict).push (PySem.W.instObj C s.heap.objs.size)).get? (s.heap.objs.size+1)=some (PySem.W.instObj C s.heap.objs.size):=by
  have:=bO (s.heap.push PySem.W.emptyDict) (o:=PySem.W.instObj C s.heap.objs.size) rfl
  rwa [Heap.size_push] at this
 have e3:(s.heap.push PySem.W.emptyDict).Ns s.heap.objs.size (λ_=>none):=⟨PySem.W.emptyDict,#[],_,e1,rfl,(λe he=>absurd he (by simp)),λ_=>rfl⟩;have I1:=I.laid (a:=s.heap.objs.size) (o:=.own (s.heap.objs.size+1)) (h':=s.heap.push PySem.W.emptyDict) (t':=s.toks) (λb u q=>bD _ q) (aX _) ⟨_,e1⟩;refine I1.laid (a:=s.heap.objs.size+1) (o:=.ins C s.heap.objs.size []) (t':=s.toks) (λb u q=>bD _ q) (Nat.le_of_eq (Heap.size_push _ _)) ?_
 have ne:s.heap.objs.size≠s.heap.objs.size+1:=bE (Nat.lt_succ_self _);refine⟨by rw[eQ ne,dY],bK _,ne,e2,λ_=>none,(Heap.Ns1.of_empty e3).at λo q=>bD _ q,λ_=>True.intro,λy hy=>absurd rfl hy⟩
theorem WT{prog:Program}{w:World}{env:Env}{e:Expr}{f:Str}{pos:Pos}{s:Shared}{Q:Value->Shared->Prop}(hb:attributeBase e f env (eval e env)=eval e env)
  (h:wpAny (model prog w) A (eval e env) (λo s₁=>wpAny (model prog w) A (getAttr o f true) Q E s₁) E s):wpAny (model prog w) A (eval (.Attribute e f pos) env) Q E s:=
 Attribute_any_ h (by rw[arm_eval_Attribute,hb])
end
inductive Ll (K:FG) (f:Str) (x:V) (H1:Hp) (Q:VK):Prop
 |mk (a C dx:Addr) (fs:List (Str×V)) (v:V) (e:x=.ref a) (h:H1 a=some (.ins C dx fs)) (c:Cls K C) (n:NoAttr K C f) (l:fs.lookup f=some v) (r:Q v H1)
def qC(K:FG)(ta:TE)(f:Str):TE:=λσ H Q=>ta σ H λx H1=>Ll K f x H1 Q
def Es(K:FG)(ta tv:TE)(f:Str):TS:=λD σ H=>tv σ H λy H1=>ta σ H1 λx H2=>∃a C dx fs,x=.ref a/\H2 a=some (.ins C dx fs)/\Cls K C/\NoAttr K C f/\fs.length<1000/\
 D.nx σ (upd H2 a (.ins C dx (fF f y fs)))
section
variable{X:Cx}{o e value:Expr}{f:Str}{pos pos' tpos:Pos}{ta tv:TE}
theorem Sq(he:PE X e ta)(hb:attributeBase e f X.env (eval e X.env)=eval e X.env):PE X (.Attribute e f pos) (qC X.K ta f):=by
 intro pins s σ H Q I h;refine WT hb (eT (he pins s σ H _ I h) λu s1 ⟨x,H1,I1,rx,a,C,dx,fs,v,ex,ea,c,n,l,q⟩=>?_);subst ex;obtain rfl:u=Value.ref a:=rx;exact awI I1 ea c n l λu' s2 I2 ru=>⟨v,H1,I2,ru,q⟩
theorem XJ(ha:PE X o ta)(hv:PE X value tv)(hs:swapsWith value (some (.Attribute o f pos')) pos.line X.env=pure false):PS X (.Assign [.Attribute o f pos'] value pos) (Es X.K ta tv f):=by
 intro pins s σ H D I h;refine plainObj_wpAny_Assign_Attribute (eT (hv pins s σ H _ I h) λu s1 ⟨y,H1,I1,ry,q⟩=>eT (ha pins s1 σ H1 _ I1 q) λov s2 ⟨x,H2,I2,rx,a,C,dx,fs,ex,ea,c,n,l,q2⟩=>?_) hs;subst ex;obtain rfl:ov=Value.ref a:=rx;exact UR I2 ea c n l ry λs3 I3=>⟨σ,_,I3,q2⟩
end
section
variable{X:Cx}{pins:List (Addr×Obj)}{σ:St}{H:Hp}{s:Shared}{A:Around}{E:Value->Shared->Prop}{Q:Value->Shared->Prop}{c:Value}{b:Bool}
inductive ja (K:FG) (H:Hp):V->Value->Prop where
 |non:ja K H .non (.type "NoneType")
 |bl (x:Bool):ja K H (.bl x) (.type "bool")
 |int (i:Int):ja K H (.int i) (.type "int")
 |str (x:Str):ja K H (.str x) (.type "str")
 |flt (x:UInt64):ja K H (.flt x) (.type "float")
 |lst {a:Addr} {xs:List V} (e:H a=some (.lst xs)):ja K H (.ref a) (.type "list")
 |frz {a:Addr} {o:Obj} {xs:List V} (e:H a=some (.frz o (.lst xs))):ja K H (.ref a) (.type "list")
 |tup {a:Addr} {xs:List V} (e:H a=some (.tup xs)):ja K H (.ref a) (.type "tuple")
 |dK {a:Addr} {kvs:List (fA×V)} (e:H a=some (.dK kvs)):ja K H (.ref a) (.type "dict")
 |dT {a:Addr} {kvs:List (List fA×V)} (e:H a=some (.dT kvs)):ja K H (.ref a) (.type "dict")
 |ins {a C dx:Addr} {fs:List (Str×V)} (e:H a=some (.ins C dx fs)) (cl:Cls K C) (ha:PySem.W.findIn K (.ref C) "__class__"=some (some (.builtin "object.__class__")))
   (hn:PySem.W.specialIn K (.builtin "object.__class__") "__get__"=some (some (.builtin "getset_descriptor.__get__"))) (htk:PySem.W.takesIn K (.builtin "object.__class__")=some true)
   (hm:PySem.W.mroIn K C (.type "object")=some true):ja K H (.ref a) (.ref C)
theorem azQ{x:V}{u t:Value}(I:Inv X pins σ H s)(rx:RelV x u)(ty:ja X.K H x t)(e:PySem.W.kitOne X.K t c=some b)(h:∀tk,Q (.bool b) {s with toks:=tk}):
  wpAny (model X.prog X.w) A (call (.builtin "isinstance") [u,c]) Q E s:=by
 cases ty with
 |non=>cases (show u=Value.none from rx);exact PySem.W.kia_one PySem.W.kitx_none I.kIn True.intro e (λz=>nomatch z) h
 |bl y=>cases (show u=Value.bool y from rx);exact PySem.W.kia_one PySem.W.kitx_bool I.kIn True.intro e (λz=>nomatch z) h
 |int i=>obtain⟨t,q⟩:=(show ∃t,u=Value.int i t from rx);cases q;exact PySem.W.kia_one PySem.W.kitx_int I.kIn True.intro e (λz=>nomatch z) h
 |str y=>obtain⟨t,q⟩:=(show ∃t,u=Value.str y t from rx);cases q;exact PySem.W.kia_one PySem.W.kitx_str I.kIn True.intro e (λz=>nomatch z) h
 |flt y=>obtain⟨t,q⟩:=(show ∃t,u=Value.float y t from rx);cases q;exact PySem.W.kia_one PySem.W.kitx_float I.kIn True.intro e (λz=>nomatch z) h
 |@lst a xs ea=>
  cases (show u=Value.ref a from rx);obtain⟨_,_,n,_,h1⟩:=(show ObjOk X.prog X.w H s.heap a (.lst xs) from I.hok a _ ea);exact PySem.W.kia_one PySem.W.kitx_list I.kIn ⟨_,h1,rfl⟩ e (λz=>nomatch z) h
 |@frz a ob xs ea=>
  cases (show u=Value.ref a from rx);obtain⟨_,_,_,n,_,h1⟩:=(show ObjOk X.prog X.w H s.heap a (.frz ob (.lst xs)) from I.hok a _ ea);exact PySem.W.kia_one PySem.W.kitx_list I.kIn ⟨_,h1,rfl⟩ e (λz=>nomatch z) h
 |@tup a xs ea=>
  cases (show u=Value.ref a from rx);obtain⟨_,_,_,p⟩:=(show ObjOk X.prog X.w H s.heap a (.tup xs) from I.hok a _ ea);obtain⟨o,h1,h2,_⟩:=p;exact PySem.W.kia_one PySem.W.kitx_tuple I.kIn ⟨o,h1,h2⟩ e (λz=>nomatch z) h
 |@dK a kvs ea=>
  cases (show u=Value.ref a from rx);obtain⟨_,_,vs,_,p⟩:=(show ObjOk X.prog X.w H s.heap a (.dK kvs) from I.hok a _ ea);obtain⟨o,es,ep,h1,h2,_⟩:=p;exact PySem.W.kia_one PySem.W.kitx_dict I.kIn ⟨o,h1,h2.1⟩ e (λz=>nomatch z) h
 |@dT a kvs ea=>
  cases (show u=Value.ref a from rx);obtain⟨_,_,xs,_,o,es,ep,h1,h2,_⟩:=(show ObjOk X.prog X.w H s.heap a (.dT kvs) from I.hok a _ ea);exact PySem.W.kia_one PySem.W.kitx_dict I.kIn ⟨o,h1,h2.1⟩ e (λz=>nomatch z) h
 |@ins a C dx fs ea cl ha hn htk hm=>
  cases (show u=Value.ref a from rx);obtain⟨mA,O,_⟩:=pI I.hok ea;obtain⟨od,J,_⟩:=O.look;exact PySem.W.kia_one (PySem.W.kitx_own (cl.get _) cl.hd ha hn htk hm) I.kIn J e (λz=>nomatch z) h
end
structure Room(k:Nat)(A:Around):Prop where
 hd:A.handled=none
 dp:A.depth+3*k+5<recursionLimit
 un:A.units+16*k+200<cLine
theorem Room.mono{j k:Nat}{A:Around}(r:Room k A)(h:j<=k):Room j A:=⟨r.hd,by have:=r.dp;omega,by have:=r.un;omega⟩
theorem Room.deeper{k:Nat}{A:Around}(r:Room (k+1) A)(env:Env):Room k (A.deeper env):=
 ⟨r.hd,by have:=r.dp;show A.depth+1+3*k+5<_;omega,by have:=r.un;show A.units+3+16*k+200<_;omega⟩
theorem Q3{A:Around}{C:Addr}{us:List Value}{kw:List (Str×Value)}:(A.under (.builtin "type.__call__" ⟨.ref C::us,kw⟩)).depth=A.depth+1:=by
 first | rfl | simp[Around.under,Code.weight,Code.isCreation,Code.isGuard,Code.isCaller,Code.frames,Code.isFrame,guardIds]
theorem Mv{A:Around}{C:Addr}{us:List Value}{kw:List (Str×Value)}:(A.under (.builtin "type.__call__" ⟨.ref C::us,kw⟩)).units=A.units+1:=by
 first | rfl | simp[Around.under,Code.cUnits,Code.frames,Code.isFrame]
theorem Room.make{k:Nat}{A:Around}(r:Room (k+1) A)(C:Addr)(us:List Value)(kw:List (Str×Value)):Room k (A.under (.builtin "type.__call__" ⟨.ref C::us,kw⟩)):=
 ⟨r.hd,by have:=r.dp;rw[Q3];omega,by have:=r.un;rw[Mv];omega⟩
theorem Room.depth{k:Nat}{A:Around}(r:Room k A):A.depth<recursionLimit:=by have:=r.dp;omega
theorem Room.units{k:Nat}{A:Around}(r:Room k A):A.units+64<cLine:=by have:=r.un;omega
def jt:TA:=λ_ H Q=>Q [] H
def ju(ta:TE)(tr:TA):TA:=λσ H Q=>ta σ H λx H1=>tr σ H1 λxs H2=>Q (x::xs) H2
section
variable{X:Cx}{e:Expr}{es:List Expr}{te:TE}{t:TA}{pos:Pos}
theorem mn:PA X [] jt:=λ_ _ _ _ H Q I h=>Calls.spliced_nil ⟨[],H,I,.nil,h⟩
theorem mj(ha:PE X e te)(hr:PA X es t)(hs:starEach (e::es) X.env=(false,eval e X.env)::starEach es X.env:=by rfl):PA X (e::es) (ju te t):=by
 intro pos pins s σ H Q I h;rw[hs];show wpAny _ _ (spliced ((false,eval e X.env)::backTo pos (starEach es X.env))) _ _ s;refine Calls.spliced_cons (eT (ha pins s σ H _ I h) λu s1 ⟨x,H1,I1,r1,q1⟩=>?_);exact eT (hr pos pins s1 σ H1 _ I1 q1) λus s2 ⟨xs,H2,I2,r2,q2⟩=>⟨x::xs,H2,I2,.cons r1 r2,q2⟩
inductive Sf (xs:List V) (H1:Hp) (Q:VK):Prop
 |mk (l:xs.length<=sizeLine) (r:∀p,H1 p=none->Q (.ref p) (upd H1 p (.tup xs)))
def Hy(t:TA):TE:=λσ H Q=>t σ H λxs H1=>Sf xs H1 Q
inductive XLs (xs:List V) (H1:Hp) (Q:VK):Prop
 |mk (l:xs.length<=sizeLine) (r:∀p,H1 p=none->Q (.ref p) (upd H1 p (.lst xs)))
def Hi(t:TA):TE:=λσ H Q=>t σ H λxs H1=>XLs xs H1 Q
theorem W8{x1}(h:PA X es t):PE X (.Tuple es x1 pos) (Hy t):=by
 intro pins s σ H Q I hq;refine wpAny_Tuple_spliced (eT (h pos pins s σ H _ I hq) λus s1 ⟨xs,H1,I1,r,z,q⟩=>⟨by rw[←r.length];exact z,?_⟩);have hf:H1 s1.heap.objs.size=none:=I1.hok.fresh (aX _);refine⟨.ref s1.heap.objs.size,upd H1 s1.heap.objs.size (.tup xs),I1.laid (t':=s1.toks) (λb u e=>bD _ e) (aX _) ?_,rfl,q _ hf⟩;exact⟨z,us,r,⟨_,bO _ rfl,rfl,()⟩⟩
theorem aIY(h:PA X es t):PE X (.List es pos) (Hi t):=by
 intro pins s σ H Q I hq;refine wpAny_List_spliced (eT (h pos pins s σ H _ I hq) λus s1 ⟨xs,H1,I1,r,z,q⟩=>⟨by rw[←r.length];exact z,?_⟩);have hf:H1 s1.heap.objs.size=none:=I1.hok.fresh (aX _);refine⟨.ref s1.heap.objs.size,upd H1 s1.heap.objs.size (.lst xs),I1.laid (t':=s1.toks) (λb u e=>bD _ e) (aX _) ?_,rfl,q _ hf⟩;exact⟨z,us,0,r,bO _ rfl⟩
end
noncomputable abbrev Sp:=List V->Hp->VK->XK->Prop
noncomputable abbrev lF:=List Env->Hp->Shared->XK->Value->Shared->Prop
structure Env0(P:Program)(w:World)(K:FG)(mg:Str->Option Value)(base:Heap)(A:Around)(outer:List Env)(s:Shared)(H:Hp):Prop where
 frames:A.frames=some outer
 mod:Mod K mg base
 bs:∀b o,base.get? b=some o->s.heap.get? b=some o/\H b=none
 bsz:base.objs.size<=s.heap.objs.size
 funs:s.heap.FunFrames base outer
 frf:∀b∈j1 outer,H b=none
 hok:HOk P w H s.heap
 bare:AllBare s.gens
def CE(outer:List Env)(P:Program)(w:World)(H:Hp)(s:Shared)(Q:VK)(u:Value)(s':Shared):Prop:=
 ∃v H',s'.os=s.os/\AllBare s'.gens/\Un (j1 outer) [] H H' s.heap s'.heap/\HOk P w H' s'.heap/\RelV v u/\Q v H'
def CR(CX:lF)(outer:List Env)(P:Program)(w:World)(H:Hp)(s:Shared)(Q:VK)(E:XK)(r:Result)(s':Shared):Prop:=
 match r with
 |.ok (.ret u)=>CE outer P w H s Q u s'
 |.ok _=>False
 |.error e=>CX outer H s E e s'
structure gF(P:Program)(w:World)(K:FG)(mg:Str->Option Value)(base:Heap)(CX:lF)(k:Nat)(f:Addr)(fd:FuncData)(ps:List Str)(sp:Sp):Prop where
 len:∀vs H Q E,sp vs H Q E->vs.length=ps.length
 run:∀(A:Around) (outer:List Env) (s:Shared) (H:Hp) (args:Args) (us:List Value) (vs:List V) (Q:VK) (E:XK),Room k A->Env0 P w K mg base A outer s H->BindsTo s fd args (ps.zip us)->Vals vs us->sp vs H Q E->
  codeAny (model P w) A (.call (.ref f) args) (CR CX outer P w H s Q E) s
theorem Env0.make{P:Program}{w:World}{K:FG}{mg:Str->Option Value}{base:Heap}{A:Around}{outer:List Env}{s:Shared}{H:Hp}(e:Env0 P w K mg base A outer s H)(C:Addr)(us:List Value)(kw:List (Str×Value)):
  Env0 P w K mg base (A.under (.builtin "type.__call__" ⟨.ref C::us,kw⟩)) outer s H:=⟨by first | exact e.frames | (simpa [Around.under,Code.envs,Code.isFrame,pushEnvs] using e.frames),e.mod,e.bs,e.bsz,e.funs,e.frf,e.hok,e.bare⟩
section
variable{X:Cx}{pins:List (Addr×Obj)}{σ:St}{H:Hp}{s s':Shared}
theorem Inv.env0(I:Inv X pins σ H s):Env0 X.prog X.w X.K X.mg X.base X.A X.stack s H:=
 ⟨I.ok.frames,I.ok.mod,I.bs,bR I.ok.bsz I.sz,I.stack,I.stkFree,I.hok,I.bare⟩
theorem Inv.after{Q:VK}{u:Value}(I:Inv X pins σ H s)(h:CE X.stack X.prog X.w H s Q u s'):EP X pins σ Q u s':=by
 obtain⟨v,H',os,bare,un,hok,r,q⟩:=h;obtain⟨hh,g,d,t,os'⟩:=s';obtain rfl:os'=s.os:=os;exact⟨v,H',I.call (h':=hh) (g':=g) (d':=d) (t':=t) (ch:=[]) un hok bare (λb z=>absurd z (by simp)),r,q⟩
end
def pS(sp:Sp)(dvs:List V)(E:XK)(t:TA):TE:=λσ H Q=>t σ H λvs H1=>sp (vs++dvs) H1 Q E
inductive TL (C:Addr) (m:Str) (x:V) (H1:Hp) (R:Prop):Prop
 |mk (a dx:Addr) (fs:List (Str×V)) (e:x=.ref a) (h:H1 a=some (.ins C dx fs)) (l:fs.lookup m=none) (r:R)
def oi(C:Addr)(m:Str)(sp:Sp)(dvs:List V)(E:XK)(ta:TE)(t:TA):TE:=λσ H Q=>ta σ H λx H1=>TL C m x H1 (t σ H1 λvs H2=>sp (x::(vs++dvs)) H2 Q E)
def rK(C:Addr)(sp:Sp)(dvs:List V)(E:XK)(t:TA):TE:=λσ H Q=>t σ H λvs H1=>∀x dx,H1 x=none->H1 dx=none->dx≠x->
 sp (.ref x::(vs++dvs)) (upd (upd H1 dx (.own x)) x (.ins C dx [])) (λv H2=>v=.non/\Q (.ref x) H2) E
def Binds(K:FG)(fd:FuncData)(ps:List Str)(ds:List Value):Prop:=
 ∀(s:Shared) (us:List Value),K.In s.heap->(us++ds).length=ps.length->BindsTo s fd ⟨us,[]⟩ (ps.zip (us++ds))
theorem Binds.all{K:FG}{fd:FuncData}{ps:List Str}(h:∀us:List Value,us.length=ps.length->bindArgs fd ⟨us,[]⟩=pure (ps.zip us)):Binds K fd ps []:=λs us _ hl=>by
 rw[cF] at hl ⊢;exact .of_eq (h us hl)
def my(CX:lF)(X:Cx)(E:XK):Prop:=∀(pins:List (Addr×Obj)) (σ:St) (H:Hp) (s:Shared) (e:Value) (s':Shared),Inv X pins σ H s->CX X.stack H s E e s'->X.xe e s'
section
variable{X:Cx}{CX:lF}{k:Nat}{f C:Addr}{fd:FuncData}{ps:List Str}{sp:Sp}{dvs:List V}{ds:List Value}{E:XK}{x m:Str}{p pos apos:Pos}{e o:Expr}{es:List Expr}{ta:TE}{t:TA}
theorem rA{pins:List (Addr×Obj)}{σ:St}{H:Hp}{s:Shared}{Q:VK}{us:List Value}{vs:List V}(F:gF X.prog X.w X.K X.mg X.base CX k f fd ps sp)(hr:Room k X.A)(hb:Binds X.K fd ps ds)(hd:Vals dvs ds)(hx:my CX X E)
  (I:Inv X pins σ H s) (r:Vals vs us) (h:sp (vs++dvs) H Q E):wpAny (model X.prog X.w) X.A (call (.ref f) us) (EP X pins σ Q) X.xe s:=by
 have r2:Vals (vs++dvs) (us++ds):=r.append hd;have hl:(us++ds).length=ps.length:=by rw[←r2.length];exact F.len _ _ _ _ h
 refine wpAny_call (codeAny_mono (F.run X.A X.stack s H ⟨us,[]⟩ (us++ds) (vs++dvs) Q E hr I.env0 (hb s us I.kIn hl) r2 h) λr s' hq=>?_);cases r with
 |error e=>exact hx pins σ H s e s' I hq
 |ok fl=>
  cases fl with
  |ret u=>exact I.after hq
  |next=>exact False.elim hq
  |brk=>exact False.elim hq
  |cont=>exact False.elim hq
theorem Qt(F:gF X.prog X.w X.K X.mg X.base CX k f fd ps sp)(hr:Room k X.A)(hg:Gl X x)(hm:X.mg x=some (.ref f))(hk:PySem.W.keepIn X.K (.ref f)=true)(hb:Binds X.K fd ps ds)(hd:Vals dvs ds)(hx:my CX X E)
  (ha:PA X (e::es) t) (hdb:(x==("__debug__":Str))=false:=by decide) (he:starEach (e::es) X.env=(false,eval e X.env)::starEach es X.env:=by rfl) (hpl:(backTo pos (starEach es X.env)).any (·.1)=false:=by rfl):
  PE X (.Call (.Name x p) (e::es) [] pos) (pS sp dvs E t):=by
 intro pins s σ H Q I h;refine dQ (nF I hg hm ?_ hdb);refine PySem.W.callWith_K (h₀:=X.base) I.ok.mod.kin hk (eT (ha pos pins s σ H _ I h) λus s1 ⟨vs,H1,I1,r,q⟩=>⟨I1.kIn,?_⟩) he hpl;exact rA F hr hb hd hx I1 r q
theorem WI{pl:Sem Bool}(he:PE X o ta)(c:Cls X.K C)(hm:jF X.K C m f)(F:gF X.prog X.w X.K X.mg X.base CX k f fd ps sp)(hr:Room k X.A)(hb:Binds X.K fd ps ds)(hd:Vals dvs ds)(hx:my CX X E)(ha:PA X (e::es) t)
  (hst:starEach (e::es) X.env=(false,eval e X.env)::starEach es X.env:=by rfl) (hpl:(backTo pos (starEach es X.env)).any (·.1)=false:=by rfl)
  (ht:eval (.Call (.Attribute o m apos) (e::es) [] pos) X.env=(do
   let ov ←eval o X.env
   standAt apos.atName
   let (f,first) ←holding [ov] (getMethod ov m pl)
   callWith pos f first (backTo pos (starEach (e::es) X.env)) (backToKw pos (keywordEach [] X.env))):=by rfl):
  PE X (.Call (.Attribute o m apos) (e::es) [] pos) (oi C m sp dvs E ta t):=by
 intro pins s σ H Q I h;refine PySem.W.methodCall_KW (pl:=pl) (eT (he pins s σ H _ I h) λu s1 ⟨x,H1,I1,rx,a,dx,fs,ex,ea,l,q⟩=>?_) ht;subst ex;obtain rfl:u=Value.ref a:=rx;refine JZ I1 ea c hm l ?_;refine PySem.W.callWith_K (first:=[.ref a]) (h₀:=X.base) I.ok.mod.kin hm.kp (eT (ha pos pins s1 σ H1 _ I1 q) λus s2 ⟨vs,H2,I2,r,q2⟩=>⟨I2.kIn,?_⟩) hst hpl;exact rA (us:=.ref a::us) (vs:=.ref a::vs) F hr hb hd hx I2 (.cons rfl r) q2
theorem Rr{pl:Sem Bool}(he:PE X o ta)(c:Cls X.K C)(hm:jF X.K C m f)(F:gF X.prog X.w X.K X.mg X.base CX k f fd ps sp)(hr:Room k X.A)(hb:Binds X.K fd ps ds)(hd:Vals dvs ds)(hx:my CX X E)
  (ht:eval (.Call (.Attribute o m apos) [] [] pos) X.env=(do
   let ov ←eval o X.env
   standAt apos.atName
   let (f,first) ←holding [ov] (getMethod ov m pl)
   callWith pos f first (backTo pos (starEach [] X.env)) (backToKw pos (keywordEach [] X.env))):=by rfl):
  PE X (.Call (.Attribute o m apos) [] [] pos) (oi C m sp dvs E ta jt):=by
 intro pins s σ H Q I h;refine PySem.W.methodCall_KW (pl:=pl) (eT (he pins s σ H _ I h) λu s1 ⟨x,H1,I1,rx,a,dx,fs,ex,ea,l,q⟩=>?_) ht;subst ex;obtain rfl:u=Value.ref a:=rx;refine JZ I1 ea c hm l ?_;exact PySem.W.callWith_K0 (first:=[.ref a]) I1.kIn hm.kp (rA (us:=[.ref a]) (vs:=[.ref a]) F hr hb hd hx I1 (.cons rfl .nil) q)
structure Mk(K:FG)(C f:Addr):Prop where
 makes:PySem.W.makesIn K C=true
 init:PySem.W.findIn K (.ref C) "__init__"=some (some (.ref f))
 fn:PySem.W.isFn K (.ref f)=true
 kp:PySem.W.keepIn K (.ref C)=true
theorem KF{pins:List (Addr×Obj)}{σ:St}{H:Hp}{s:Shared}{Q:VK}{us:List Value}{vs:List V}(M:Mk X.K C f)(F:gF X.prog X.w X.K X.mg X.base CX k f fd ps sp)(hr:Room (k+1) X.A)(hb:Binds X.K fd ps ds)(hd:Vals dvs ds)
  (hx:my CX X E) (I:Inv X pins σ H s) (r:Vals vs us)
  (h:∀x dx,H x=none->H dx=none->dx≠x->sp (.ref x::(vs++dvs)) (upd (upd H dx (.own x)) x (.ins C dx [])) (λv H2=>v=.non/\Q (.ref x) H2) E):
  wpAny (model X.prog X.w) X.A (call (.ref C) us) (EP X pins σ Q) X.xe s:=by
 have hq:=h (s.heap.objs.size+1) s.heap.objs.size (I.hok.fresh (Nat.le_succ _)) (I.hok.fresh (aX _)) (bE (Nat.lt_succ_self _));have I2:=Inv.made (C:=C) I;have r2:Vals (V.ref (s.heap.objs.size+1)::(vs++dvs)) (Value.ref (s.heap.objs.size+1)::(us++ds)):=.cons rfl (r.append hd);have hl:(Value.ref (s.heap.objs.size+1)::us++ds).length=ps.length:=by
  have e:=r2.length;rw[F.len _ _ _ _ hq] at e;exact e.symm
 refine wpAny_call (Wl (f:=f) I.kIn M.makes M.init (beq_iff_eq.mp M.fn) (codeAny_mono (F.run _ X.stack _ _ ⟨Value.ref (s.heap.objs.size+1)::us,[]⟩ (Value.ref (s.heap.objs.size+1)::(us++ds)) _ _ E (hr.make C us [])
  (I2.env0.make C us []) (hb _ (Value.ref (s.heap.objs.size+1)::us) I2.kIn hl) r2 hq) λr s' hq'=>?_))
 cases r with
 |error e=>exact hx pins σ _ _ e s' I2 hq'
 |ok fl=>
  cases fl with
  |ret u=>
   obtain⟨v,H',I3,rv,ev,q3⟩:=I2.after hq';subst ev;exact⟨rv,⟨V.ref (s.heap.objs.size+1),H',I3,rfl,q3⟩⟩
  |next=>exact False.elim hq'
  |brk=>exact False.elim hq'
  |cont=>exact False.elim hq'
theorem K9(M:Mk X.K C f)(F:gF X.prog X.w X.K X.mg X.base CX k f fd ps sp)(hr:Room (k+1) X.A)(hg:Gl X x)(hm:X.mg x=some (.ref C))(hb:Binds X.K fd ps ds)(hd:Vals dvs ds)(hx:my CX X E)
  (ha:PA X (e::es) t) (hdb:(x==("__debug__":Str))=false:=by decide) (he:starEach (e::es) X.env=(false,eval e X.env)::starEach es X.env:=by rfl) (hpl:(backTo pos (starEach es X.env)).any (·.1)=false:=by rfl):
  PE X (.Call (.Name x p) (e::es) [] pos) (rK C sp dvs E t):=by
 intro pins s σ H Q I h;refine dQ (nF I hg hm ?_ hdb);refine PySem.W.callWith_K (h₀:=X.base) I.ok.mod.kin M.kp (eT (ha pos pins s σ H _ I h) λus s1 ⟨vs,H1,I1,r,q⟩=>⟨I1.kIn,?_⟩) he hpl;exact KF M F hr hb hd hx I1 r q
theorem Xm(M:Mk X.K C f)(F:gF X.prog X.w X.K X.mg X.base CX k f fd ps sp)(hr:Room (k+1) X.A)(hg:Gl X x)(hm:X.mg x=some (.ref C))(hb:Binds X.K fd ps ds)(hd:Vals dvs ds)(hx:my CX X E)
  (hdb:(x==("__debug__":Str))=false:=by decide):PE X (.Call (.Name x p) [] [] pos) (rK C sp dvs E jt):=by
 intro pins s σ H Q I h;refine dQ (nF I hg hm ?_ hdb);exact PySem.W.callWith_K0 I.kIn M.kp (KF (us:=[]) M F hr hb hd hx I .nil h)
variable{ks:List Str}{kpos:Pos}{kws:List Keyword}{te:TE}{tk:TA}{nm:Option Str}{g:List Value->List Value->List Value}{gV:List V->List V->List V}
end
structure dW(N P:List Str)(sc:Scope):Prop where
 kind:sc.kind=.function
 co:sc.isCoroutine=false
 gen:sc.isGenerator=false
 nd:N.Nodup
 pre:N.take P.length=P
 par:∀x∈P,sc.names.lookup x=some .local∨sc.names.lookup x=some .cell
 nofree:∀y∈sc.names,y.2≠ .free
theorem JU{kindOf:Str->Option NameKind}{x:Str}:∀{binds:List (Str×Value)} {m:Str->Option Value},(∀v,(x,v)∉binds)->bindL kindOf binds m x=m x
 |[],_,_=>rfl
 |(n,v)::r,m,h=>by
  unfold bindL;rw[JU λw hw=>h w (bP _ hw)];split
  ·have:x≠n:=by rintro rfl;exact h v bS
   simp[this]
  ·rfl
theorem KP{kindOf:Str->Option NameKind}{x:Str}:∀{binds:List (Str×Value)} {m:Str->Option Value},(∀v,(x,v)∉binds)->bindC kindOf binds m x=m x
 |[],_,_=>rfl
 |(n,v)::r,m,h=>by
  unfold bindC;rw[KP λw hw=>h w (bP _ hw)];split
  ·rfl
  ·have:x≠n:=by rintro rfl;exact h v bS
   simp[this]
theorem Gj{kindOf:Str->Option NameKind}{x:Str}{v:Value}:∀{P:List Str} {vs:List Value} {i:Nat} {m:Str->Option Value},P.Nodup->P[i]? =some x->vs[i]? =some v->kindOf x=some .local->
  bindL kindOf (P.zip vs) m x=some v
 |[],_,_,_,_,h,_,_=>by simp at h
 |_::_,[],_,_,_,_,h,_=>by simp at h
 |p::P,w::vs,0,m,nd,h1,h2,hk=>by
  simp at h1 h2;subst h1;subst h2;show bindL kindOf ((p,w)::P.zip vs) m p=_;unfold bindL;rw[JU λv hv=>(List.nodup_cons.mp nd).1 (List.of_mem_zip hv).1,if_pos hk];simp
 |p::P,w::vs,i+1,m,nd,h1,h2,hk=>by
  show bindL kindOf ((p,w)::P.zip vs) m x=_;unfold bindL;exact Gj (i:=i) (List.nodup_cons.mp nd).2 (by simpa using h1) (by simpa using h2) hk
theorem F8{kindOf:Str->Option NameKind}{x:Str}{v:Value}:∀{P:List Str} {vs:List Value} {i:Nat} {m:Str->Option Value},P.Nodup->P[i]? =some x->vs[i]? =some v->kindOf x≠some .local->
  bindC kindOf (P.zip vs) m x=some v
 |[],_,_,_,_,h,_,_=>by simp at h
 |_::_,[],_,_,_,_,h,_=>by simp at h
 |p::P,w::vs,0,m,nd,h1,h2,hk=>by
  simp at h1 h2;subst h1;subst h2;show bindC kindOf ((p,w)::P.zip vs) m p=_;unfold bindC;rw[KP λv hv=>(List.nodup_cons.mp nd).1 (List.of_mem_zip hv).1,if_neg hk];simp
 |p::P,w::vs,i+1,m,nd,h1,h2,hk=>by
  show bindC kindOf ((p,w)::P.zip vs) m x=_;unfold bindC;exact F8 (i:=i) (List.nodup_cons.mp nd).2 (by simpa using h1) (by simpa using h2) hk
noncomputable def start(N:List Str)(vs:List V):St:=vs.map some++List.replicate (N.length-vs.length) none
noncomputable def mz(CX:lF)(P:Program)(w:World)(K:FG)(mg:Str->Option Value)(base:Heap)(N:List Str)(qual:Str)(scope:Scope)(f:Addr)(cd:Value)(A:Around)(outer:List Env)(s:Shared)(H:Hp)(E:XK):Cx where
 prog:=P
 w:=w
 K:=K
 mg:=mg
 base:=base
 A:=A.deeper (envOfC qual scope s.heap.objs.size f cd)
 N:=N
 s₀:=s
 H₀:=H
 env:=envOfC qual scope s.heap.objs.size f cd
 outer:=outer
 stack:=envOfC qual scope s.heap.objs.size f cd::outer
 ex:=[]
 calm:=true
 fn:=λ_=>true
 pn:=[]
 xe:=λe s'=>wpAny (model P w) (A.deeper (envOfC qual scope s.heap.objs.size f cd)) (leaving (envOfC qual scope s.heap.objs.size f cd) e) (λ_ s''=>CX outer H s E e s'') (λe' s''=>CX outer H s E e' s'') s'
theorem Ez{sc:Scope}{n:Nat}{x:Str}(h:sc.names.lookup x=some .cell):∃c,(cellsFrom n sc.names []).lookup x=some c:=by
 have q:=PySem.W.cellsFrom_some sc.names n [] (.inl h);exact cW.mp q
theorem Sx{CX:lF}{P:Program}{w:World}{K:FG}{mg:Str->Option Value}{base:Heap}{N ps:List Str}{qual:Str}{scope:Scope}{f:Addr}{cd:Value}{A:Around}{outer:List Env}{s s1:Shared}{H:Hp}{E:XK}{us:List Value}{vs:List V}
  (S:dW N ps scope) (hd:A.handled=none) (e0:Env0 P w K mg base A outer s H) (hl:vs.length=ps.length) (r:Vals vs us)
  (x:InCallC s s.heap.objs.size (bindL (envOfC qual scope s.heap.objs.size f cd).kindOf (ps.zip us) λ_=>none) (cellsFrom (s.heap.objs.size+1) scope.names []) (bindC (envOfC qual scope s.heap.objs.size f cd).kindOf (ps.zip us) λ_=>none) s1):
  Inv (mz CX P w K mg base N qual scope f cd A outer s H E) [] (start N vs) H s1:=by
 have hpl:ps.length<=N.length:=by have:=congrArg List.length S.pre;rw[cX] at this;omega
 obtain⟨h1,tk,rfl,hk⟩:=x.done;have noA:∀b:Addr,b∉(mz CX P w K mg base N qual scope f cd A outer s H E).ex:=λb z=>absurd (show b∈([]:List Addr) from z) (by simp);refine⟨⟨e0.mod,S.kind,rfl,rfl,aX _,λy z c h1 h2=>?_,λy hy=>?_,λy c _ h=>?_,λ_=>hd,Around.frames_deeper e0.frames,.inr ⟨rfl,rfl⟩,λb z=>absurd z (noA b),e0.bs,e0.bsz,λb _ _=>noA b,λb z=>absurd z (noA b),e0.funs,e0.frf⟩,
  rfl,e0.bare,Un.kept hk,⟨_,x.toInCall.ns,λi y v h1 h2 h3=>?_⟩,λy c h=>⟨_,x.cell y c h⟩,e0.hok.fresh (aX _),λy c h=>?_,λp hp=>absurd (show p∈([]:List (Addr×Obj)) from hp) (by simp),e0.hok.kept hk,?_⟩
 ·exact name_of_addr x.apart (PySem.mem_of_lookup h1) (PySem.mem_of_lookup h2)
 ·have hy:scope.names.lookup y=some .cell∨scope.names.lookup y=some .free:=hy;rcases hy with hy | hy
  ·exact Ez hy
  ·exact absurd rfl (S.nofree _ (PySem.mem_of_lookup hy))
 ·exact Nat.le_of_lt (x.above y c (PySem.mem_of_lookup h))
 ·have hi:i<vs.length:=by
   unfold start at h2;by_cases hi:i<vs.length
   ·exact hi
   ·rw[List.getElem?_append_right (by simpa using hi)] at h2;rw[List.getElem?_replicate] at h2;split at h2<;>cases h2
  have ha:vs[i]? =some v:=by
   unfold start at h2;rw[List.getElem?_append_left (by simpa using hi),bN] at h2;cases e:vs[i]? with
   |none=>rw[e] at h2;cases h2
   |some a=>rw[e] at h2;cases h2;rfl
  obtain⟨u,hu,rv⟩:=r.get ha;have hp:ps[i]? =some y:=by
   rw[←S.pre,List.getElem?_take_of_lt ⋯];exact h1
  have ndP:ps.Nodup:=by rw[←S.pre];exact S.nd.sublist (List.take_sublist _ _)
  refine⟨u,rv,?_⟩;rcases S.par y (bU hp) with k | k
  ·exact .inl ⟨k,Gj ndP hp hu k⟩
  ·obtain⟨c,e⟩:=Ez (n:=s.heap.objs.size+1) k;refine .inr ⟨.inl k,c,e,?_⟩;have q:=x.cell y c e;rw[F8 ndP hp hu (by show scope.names.lookup y≠_;rw[k];decide)] at q;exact q
 ·exact e0.hok.fresh (Nat.le_of_lt (x.above y c (PySem.mem_of_lookup h)))
 ·unfold start;show _=N.length;rw[aZ,aY,cY];omega
theorem sD{CX:lF}{P:Program}{w:World}{K:FG}{mg:Str->Option Value}{base:Heap}{k:Nat}{f:Addr}{name qual:Str}{params:Arguments}{body:List Stmt}{scope:Scope}{dV kV doc pm cdv ct oc:Value}{an od:Option Addr}
  {osl:Array (Option Value)} {N ps:List Str} {sp:Sp} (lk:K.lookup f=some ⟨oc,od,.func (PySem.W.fnOf name qual params body scope dV kV doc pm an cdv ct),osl⟩) (hcd:PySem.W.codeIn K cdv qual=true) (S:dW N ps scope)
  (len:∀vs H Q E,sp vs H Q E->vs.length=ps.length)
  (hbody:∀(A:Around) (outer:List Env) (s:Shared) (H:Hp) (vs:List V) (Q:VK) (E:XK),Room k (A.deeper (envOfC qual scope s.heap.objs.size f cdv))->sp vs H Q E->
   ∃t,PSs (mz CX P w K mg base N qual scope f cdv A outer s H E) body t/\t {nx:=λ_ H'=>Q .non H',rt:=Q} (start N vs) H):
  gF P w K mg base CX (k+1) f (PySem.W.fnOf name qual params body scope dV kV doc pm an cdv ct) ps sp:=by
 refine⟨len,λA outer s H args us vs Q E hr e0 hb r hsp=>?_⟩;have hl:=len _ _ _ _ hsp;have KX:K.In s.heap:=e0.mod.kin.keeps λb o e=>(e0.bs b o e).1;have lim:s.heap.NoLimit:=e0.mod.nolimit.keeps λb o e=>(e0.bs b o e).1;have hkind:∀y∈ps.zip us,scope.names.lookup y.1=some .local∨(scope.names.lookup y.1=some .cell/\((cellsFrom (s.heap.objs.size+1) scope.names []).lookup y.1).isSome=true):=λ⟨n,v⟩ hy=>by
  rcases S.par n (List.of_mem_zip hy).1 with q | q
  ·exact .inl q
  ·exact .inr ⟨q,PySem.W.cellsFrom_some _ _ _ (.inl q)⟩
 refine codeAny_call_function hr.depth (KX _ _ lk) rfl S.co S.gen rfl (PySem.W.codeRec_of KX hcd) (hb _ _ _ _ ?_);refine wpAny_newFunctionEnv_cells S.kind hkind λenv he s1 x=>?_;subst he;refine⟨lim.keeps x.toInCall.keep,codeAny_func ?_⟩;obtain⟨t,ht,hq⟩:=hbody A outer s H vs Q E (hr.deeper _) hsp;have I:Inv (mz CX P w K mg base N qual scope f cdv A outer s H E) [] (start N vs) H s1:=Sx S hr.hd e0 hl r x
 refine dH (ht [] s1 (start N vs) H _ I hq) (λfl s' hs=>?_) λe s' hs=>hs;have eY:∀{σ':St} {H':Hp} {v:V} {u:Value},Inv (mz CX P w K mg base N qual scope f cdv A outer s H E) [] σ' H' s'->RelV v u->Q v H'->CE outer P w H s Q u s':=
  λ{σ' H' v u} J rv q=>⟨v,H',J.os,J.bare,J.base,J.hok,rv,q⟩
 cases fl with
 |ret u=>
  obtain⟨v,σ',H',J,rv,q⟩:=hs;exact eY J rv q
 |next=>
  obtain⟨σ',H',J,q⟩:=hs;exact eY (v:=V.non) (u:=Value.none) J rfl q
 |brk=>
  obtain⟨_,_,_,q⟩:=hs;exact False.elim q
 |cont=>
  obtain⟨_,_,_,q⟩:=hs;exact False.elim q
section
variable{X:Cx}{x:Str}{p pos:Pos}{e:Expr}{es:List Expr}{t:TA}{id T:String}{r:List V->Hp->VK->Prop}
def qx(r:List V->Hp->VK->Prop)(t:TA):TE:=λσ H Q=>t σ H λvs H1=>r vs H1 Q
theorem Mj(hc:jN X (.builtin id) r)(hg:Gl X x)(hm:X.mg x=none)(hv:bootBuiltins x=some (.builtin id))(ha:PA X (e::es) t)(hn:x≠"__name__":=by decide)(hdb:(x==("__debug__":Str))=false:=by decide)
  (he:starEach (e::es) X.env=(false,eval e X.env)::starEach es X.env:=by rfl) (hpl:(backTo pos (starEach es X.env)).any (·.1)=false:=by rfl):PE X (.Call (.Name x p) (e::es) [] pos) (qx r t):=by
 intro pins s σ H Q I h;refine dQ (nV I hg hm hv ?_ hn hdb);exact PyProof.Rows.callWith_builtin1 (eT (ha pos pins s σ H _ I h) λus s1 ⟨vs,H1,I1,r1,q1⟩=>hc pins s1 σ H1 vs us Q I1 r1 q1) he hpl
theorem az7(hc:jN X (.type T) r)(hg:Gl X x)(hm:X.mg x=none)(hv:bootBuiltins x=some (.type T))(ha:PA X (e::es) t)(hn:x≠"__name__":=by decide)(hdb:(x==("__debug__":Str))=false:=by decide)
  (he:starEach (e::es) X.env=(false,eval e X.env)::starEach es X.env:=by rfl) (hpl:(backTo pos (starEach es X.env)).any (·.1)=false:=by rfl):PE X (.Call (.Name x p) (e::es) [] pos) (qx r t):=by
 intro pins s σ H Q I h;refine dQ (nV I hg hm hv ?_ hn hdb);exact PyProof.Rows.callWith_type1 (eT (ha pos pins s σ H _ I h) λus s1 ⟨vs,H1,I1,r1,q1⟩=>hc pins s1 σ H1 vs us Q I1 r1 q1) he hpl
end
end L2
namespace HT
open PySem PyProof.Rows
section
open PySem.SeqAt
open PySem.AutoSeq1 (wpAny_loadPart')
open PySem.MeetsSeq PySem.MeetsSeq2 PySem.MeetsSeq3
variable{prog:Program}{w:World}{A:Around}{E:Value->Shared->Prop}{s:Shared}
noncomputable def sIx(n d:Nat):Option Int->Nat
 |none=>d
 |some v=>if v<0 then (v+(n:Int)).toNat else min v.toNat n
theorem sIx_le(n d:Nat)(hd:d<=n)(o:Option Int):sIx n d o<=n:=by
 cases o with
 |none=>exact hd
 |some v=>
  show (if v<0 then (v+(n:Int)).toNat else min v.toNat n)<=n;by_cases hv:v<0
  ·rw[if_pos hv];omega
  ·rw[if_neg hv];exact Nat.min_le_right _ _
end
end HT
namespace L2
open PySem PySem.Spec PyProof.Rows
noncomputable abbrev TO:=St->Hp->(Option Int->Hp->Prop)->Prop
def PO(X:Cx)(e:Option Expr)(t:TO):Prop:=
 ∀(pins:List (Addr×Obj)) (s:Shared) (σ:St) (H:Hp) (Q:Option Int->Hp->Prop),Inv X pins σ H s->t σ H Q->
  wpAny (model X.prog X.w) X.A (evalPart e X.env) (λu s'=>∃o H',Inv X pins σ H' s'/\IsPart u o/\Q o H') X.xe s
def EY:TO:=λ_ H Q=>Q none H
def Jo(t:TE):TO:=λσ H Q=>t σ H λx H1=>∃i,x=.int i/\Q (some i) H1
section
variable{X:Cx}{e:Expr}{te:TE}{lo hi:Option Expr}{tl th:TO}{pos p2:Pos}
theorem Pl:PO X none EY:=by
 intro pins s σ H Q I h;rw[evalPart_none];exact dR ⟨none,H,I,.none,h⟩
theorem Wu(h:PE X e te):PO X (some e) (Jo te):=by
 intro pins s σ H Q I hw;rw[evalPart_some];refine eT (h pins s σ H _ I hw) λu s1 ⟨x,H1,I1,r1,q1⟩=>?_;obtain⟨i,rfl,q⟩:=q1;obtain⟨t,rfl⟩:=r1;exact⟨some i,H1,I1,.int i t,q⟩
def yg(X:Cx)(r:V->Option Int->Option Int->Hp->VK->Prop):Prop:=
 ∀(pins:List (Addr×Obj)) (s:Shared) (σ:St) (H:Hp) (x:V) (v vl vu:Value) (lo hi:Option Int) (sl:Addr) (Q:VK),Inv X pins σ H s->RelV x v->s.heap.IsSliceOf sl vl vu .none->IsPart vl lo->IsPart vu hi->r x lo hi H Q->
  ∃T id,typeLookup (.type T) "__getitem__"=pure (some (.builtin id))/\s.TypeIs v T/\wpAny (model X.prog X.w) X.A (getItem v (.ref sl)) (EP X pins σ Q) X.xe s
def ED(r:V->Option Int->Option Int->Hp->VK->Prop)(te:TE)(tl th:TO):TE:=λσ H Q=>te σ H λx H1=>tl σ H1 λl H2=>th σ H2 λu H3=>r x l u H3 Q
theorem QO{r:V->Option Int->Option Int->Hp->VK->Prop}(hr:yg X r)(he:PE X e te)(hl:PO X lo tl)(hu:PO X hi th):PE X (.Subscript e (.Slice lo hi none p2) pos) (ED r te tl th):=by
 intro pins s σ H Q I h;refine Subscript_ (eT (he pins s σ H _ I h) λv s1 ⟨x,H1,I1,r1,q1⟩=>?_);refine wpAny_Slice (eT (hl pins s1 σ H1 _ I1 q1) λvl s2 ⟨l,H2,I2,pl,q2⟩=>eT (hu pins s2 σ H2 _ I2 q2) λvu s3 ⟨u,H3,I3,pu,q3⟩=>?_);rw[evalPart_none];refine dR ?_;have I4:Inv X pins σ H3 {s3 with heap:=s3.heap.push {cls:=.type "slice",data:=.fields #[vl,vu,.none]} }:=I3.kept (t':=s3.toks) λb ob q=>bD _ q
 obtain⟨T,id,hT,ht,hg⟩:=hr pins {s3 with heap:=s3.heap.push {cls:=.type "slice",data:=.fields #[vl,vu,.none]} } σ H3 x v vl vu l u s3.heap.objs.size Q I4 r1 (Heap.IsSliceOf.new ..) pl pu q3;show wpAny (model X.prog X.w) X.A (subscriptTail e (.Slice lo hi none p2) v (.ref s3.heap.objs.size)) (EP X pins σ Q) X.xe {s3 with heap:=s3.heap.push {cls:=.type "slice",data:=.fields #[vl,vu,.none]} };exact tail_any (ops:=[.ref s3.heap.objs.size,v]) ht hT hg (by with_unfolding_all rfl)
noncomputable def lZ(xs:List V)(lo hi:Option Int):List V:=(xs.drop (HT.sIx xs.length 0 lo)).take (HT.sIx xs.length xs.length hi-HT.sIx xs.length 0 lo)
theorem SH(xs:List V)(lo hi:Option Int):(lZ xs lo hi).length<=xs.length:=by
 unfold lZ;rw[cX,List.length_drop];omega
end
noncomputable def kG(n:Nat)(i:Int):Option Nat:=if 0<=i then (if i<n then some i.toNat else none) else if -(n:Int)<=i then some (i+n).toNat else none
noncomputable def iF{α:Type}(xs:List α)(i:Int):Option α:=(kG xs.length i).bind λj=>xs[j]?
theorem EH{n:Nat}{i:Int}{j:Nat}(h:kG n i=some j):seqIndex? i n=some j/\j<n/\ -(n:Int)<=i/\i<n:=by
 unfold kG at h;by_cases h0:0<=i
 ·rw[if_pos h0] at h;by_cases h1:i<n
  ·rw[if_pos h1] at h;have e:i.toNat=j:=bF h;exact⟨by rw[seqIndex_of h0 h1,e],⋯,⋯,h1⟩
  ·rw[if_neg h1] at h;cases h
 ·rw[if_neg h0] at h;by_cases h1: -(n:Int)<=i
  ·rw[if_pos h1] at h;have e:(i+n).toNat=j:=bF h;exact⟨by rw[seqIndex_neg ⋯ h1,e],⋯,h1,⋯⟩
  ·rw[if_neg h1] at h;cases h
theorem y9{α:Type}{xs:List α}{i:Int}{v:α}(h:iF xs i=some v):∃j,seqIndex? i xs.length=some j/\xs[j]? =some v/\j<xs.length/\ -(xs.length:Int)<=i/\i<xs.length:=by
 unfold iF at h;cases e:kG xs.length i with
 |none=>rw[e] at h;cases h
 |some j=>
  rw[e] at h;obtain⟨h1,h2,h3,h4⟩:=EH e;exact⟨j,h1,h,h2,h3,h4⟩
theorem mH{α:Type}{xs:List α}{j:Nat}{v:α}(h:xs[j]? =some v):iF xs (j:Int)=some v:=by
 have hj:j<xs.length:=(cT.mp h).1;have e:kG xs.length (j:Int)=some j:=by
  unfold kG;rw[if_pos ⋯,if_pos ⋯];simp
 unfold iF;rw[e];exact h
theorem MS{α:Type}(xs:List α)(v:α):iF (xs++[v]) (-1)=some v:=by
 have hl:(xs++[v]).length=xs.length+1:=by simp
 have e:kG (xs++[v]).length (-1)=some xs.length:=by
  unfold kG;rw[hl,if_neg (by decide),if_pos ⋯];congr 1;omega
 unfold iF;rw[e];show (xs++[v])[xs.length]? =some v;simp
def J3(b:Expr):Prop:=∀o i,subscripted b false o i=operate [o,i] (getItem o i)
def pP(X:Cx)(r:R2):Prop:=
 ∀(value slice:Expr) (pins:List (Addr×Obj)) (s:Shared) (σ:St) (H:Hp) (x y:V) (v u:Value) (Q:VK),Inv X pins σ H s->RelV x v->RelV y u->r x y H Q->
  subscripted slice false v u=operate [v,u] (getItem v u)->wpAny (model X.prog X.w) X.A (subscriptTail value slice v u) (EP X pins σ Q) X.xe s
def mX(X:Cx)(id:String)(r:V->List V->Hp->VK->Prop):Prop:=
 ∀(pins:List (Addr×Obj)) (s:Shared) (σ:St) (H:Hp) (x:V) (xs:List V) (v:Value) (us:List Value) (Q:VK),Inv X pins σ H s->RelV x v->Vals xs us->r x xs H Q->
  wpAny (model X.prog X.w) X.A (call (.builtin id) (v::us)) (EP X pins σ Q) X.xe s
section
variable{X:Cx}{a b:Expr}{ta tb:TE}{pos:Pos}
theorem T1{r:R2}(hr:pP X r)(ha:PE X a ta)(hb:PE X b tb)(hs:J3 b):PE X (.Subscript a b pos) (mB r ta tb):=by
 intro pins s σ H Q I h;exact Subscript_ (yR ha hb I h λv u s2 x y H2 I2 rx ry q=>hr a b pins s2 σ H2 x y v u Q I2 rx ry q (hs _ _))
inductive QK (K:FG) (x y:V) (H:Hp) (Q:VK):Prop
 |mk (p:Addr) (xs:List V) (i:Int) (v:V) (e:x=.ref p) (f:y=.int i) (s:SqL K H p xs) (a:iF xs i=some v) (r:Q v H)
def Af(K:FG):R2:=QK K
inductive ML (K:FG) (x y:V) (H:Hp) (Q:VK):Prop
 |mk (p:Addr) (xs:List V) (i:Int) (v:V) (e:x=.ref p) (f:y=.int i) (s:SqT K H p xs) (a:iF xs i=some v) (r:Q v H)
def BH(K:FG):R2:=ML K
def Dw:R2:=λx y H Q=>∃z i c,x=.str z/\y=.int i/\z.length<=sizeLine/\iF z.cps.toList i=some c/\Q (.str ⟨#[c]⟩) H
theorem Z7:pP X (Af X.K):=by
 intro value slice pins s σ H x y v u Q I rx ry h hs;obtain⟨p,xs,i,z,rfl,rfl,hq,he,q⟩:=h;cases rx;obtain⟨t,rfl⟩:=ry;obtain⟨its,r,pl,hz⟩:=I.list hq;obtain⟨j,h1,h2,h3,h4,h5⟩:=y9 he;obtain⟨w,ew,rw'⟩:=r.get h2;have hl:=r.length;have hn:=ni;have eY:EP X pins σ Q w s:=⟨z,H,I,rw',q⟩;by_cases h0:0<=i
 ·have hj:i.toNat=j:=by
   rw[seqIndex_of h0 h5] at h1;exact bF h1
  exact item_listR pl.isList h0 ⋯ (by rw[hj];simpa using ew) eY hs
 ·have hj:(i+(its.toArray.size:Int)).toNat=j:=by
   rw[seqIndex_neg ⋯ h4] at h1;rw[bJ,←hl];exact bF h1
  exact subscriptTail_builtinR (x:=w) pl.isList.typeIs slot_list_getitem.lookup
   (wpAny_getItem_list_neg (Q:=λr s'=>r=w/\EP X pins σ Q r s') pl.isList ⋯ (by rw[bJ]<;>omega) ⋯ (by rw[hj];simpa using ew) ⟨rfl,eY⟩) hs
theorem OM:pP X (BH X.K):=by
 intro value slice pins s σ H x y v u Q I rx ry h hs;obtain⟨p,xs,i,z,rfl,rfl,hq,he,q⟩:=h;cases rx;obtain⟨t,rfl⟩:=ry;obtain⟨its,r,pl,hz⟩:=I.tuple hq;obtain⟨j,h1,h2,h3,h4,h5⟩:=y9 he;obtain⟨w,ew,rw'⟩:=r.get h2;have hl:=r.length;have hn:=ni;have eY:EP X pins σ Q w s:=⟨z,H,I,rw',q⟩;exact subscriptTail_builtinR (x:=w) pl.typeIs slot_tuple_getitem.lookup
  (getItem_tuple (j:=j) (Q:=λr s'=>r=w/\EP X pins σ Q r s') pl ⋯ ⋯ (by rw[bJ,←hl];exact h1) (by simpa using ew) ⟨rfl,eY⟩) hs
theorem WX:pP X Dw:=by
 intro value slice pins s σ H x y v u Q I rx ry h hs;obtain⟨z,i,c,rfl,rfl,hz,he,q⟩:=h;obtain⟨t,rfl⟩:=rx;obtain⟨t',rfl⟩:=ry;obtain⟨j,h1,h2,h3,h4,h5⟩:=y9 he;have hl:z.cps.toList.length=z.length:=by simp[Str.length]
 rw[hl] at h1 h4 h5;have hn:=ni;exact tail_any (typeIs_str s z t) slot_str_getitem.lookup (getItem_str (c:=c) (by
  have e1:decide (i< -(2^63:Int))=false:=dP ⋯;have e2:decide (i ≥ 2^63)=false:=dP ⋯;rw[e1,e2,Bool.or_false]) (by rw[h1];simpa using h2) ⟨.str ⟨#[c]⟩,H,I.tok _,⟨()⟩,q⟩) hs
theorem M1(its:List Value)(n j:Nat)(u:Value):Obj.mapSeq (·.setIfInBounds j u) {cls:=.type "list",data:=.seq its.toArray n}={cls:=.type "list",data:=.seq (its.set j u).toArray n}:=by
 simp[Obj.mapSeq]
theorem Inv.lst{pins:List (Addr×Obj)}{σ:St}{H:Hp}{s:Shared}{p:Addr}{xs:List V}(I:Inv X pins σ H s)(h:H p=some (.lst xs)):
  ∃(its:List Value) (n:Nat),Vals xs its/\s.heap.get? p=some {cls:=.type "list",data:=.seq its.toArray n}/\xs.length<=sizeLine:=by
 obtain⟨z,its,n,r,e⟩:=I.hok p _ h;exact⟨its,n,r,e,z⟩
theorem Inv.lstUpd{pins:List (Addr×Obj)}{σ:St}{H:Hp}{s:Shared}{p:Addr}{xs ys:List V}{its its':List Value}{n n':Nat}{f:Obj->Obj}(I:Inv X pins σ H s)(h:H p=some (.lst xs))
  (ho:s.heap.get? p=some {cls:=.type "list",data:=.seq its.toArray n}) (hf:f {cls:=.type "list",data:=.seq its.toArray n}={cls:=.type "list",data:=.seq its'.toArray n'}) (r:Vals ys its') (hz:ys.length<=sizeLine) (t:Nat):
  Inv X pins σ (upd H p (.lst ys)) {s with heap:=s.heap.update p f,toks:=t}:=by
 have e:(s.heap.update p f).get? p=some {cls:=.type "list",data:=.seq its'.toArray n'}:=by
  rw[Heap.get?_update_self f ho (by rw[hf]<;>rfl),hf]
 refine I.write (x:=p) (e:=p) (by rw[h];trivial) (.inl rfl) (λb u hb q=>(Heap.get?_update_other _ _ (Ne.symm hb)).trans q) ⟨_,e⟩ ?_;exact⟨hz,its',n',r,e⟩
def Hk:V->V->V->Hp->(Hp->Prop)->Prop:=λo i v H Q=>∃p xs k j,o=.ref p/\i=.int k/\H p=some (.lst xs)/\kG xs.length k=some j/\Q (upd H p (.lst (xs.set j v)))
theorem ZK:FW X Hk:=by
 intro pins s σ H o i v ov iv u Q I ro ri rv h;obtain⟨p,xs,k,j,rfl,rfl,hp,hj,q⟩:=h;cases ro;obtain⟨t,rfl⟩:=ri;obtain⟨its,n,r,ho,hz⟩:=I.lst hp;obtain⟨h1,h2,h3,h4⟩:=EH hj;have hl:=r.length;have hn:=ni;have I':Inv X pins σ (upd H p (.lst (xs.set j v))) {s with heap:=s.heap.update p (Obj.mapSeq (·.setIfInBounds j u))}:=
  I.lstUpd hp ho (M1 its n j u) (r.set rv j) (by rw[List.length_set];exact hz) s.toks
 by_cases h0:0<=k
 ·have hk:k.toNat=j:=by
   rw[seqIndex_of h0 h4] at h1;exact bF h1
  exact PySem.W.ki_setAt ho h0 ⋯ (by rw[bJ,←hl];exact h4) (by rw[hk];exact⟨_,I',q⟩)
 ·have hk:(k+(its.toArray.size:Int)).toNat=j:=by
   rw[seqIndex_neg ⋯ h3] at h1;rw[bJ,←hl];exact bF h1
  exact PySem.W.ki_setBack ho ⋯ (by rw[bJ,←hl];exact h3) ⋯ (by rw[hk];exact⟨_,I',q⟩)
theorem Ir(lo hi:Option Int)(n:Nat):(sliceBounds lo hi none n).1=((HT.sIx n 0 lo:Nat):Int)/\(sliceBounds lo hi none n).2.1=((HT.sIx n n hi:Nat):Int)/\(sliceBounds lo hi none n).2.2=1:=by
 refine⟨?_,?_,rfl⟩
 ·cases lo with
  |none=>simp[sliceBounds,HT.sIx]
  |some i=>
   simp only[sliceBounds,HT.sIx,Option.getD_none,show (1:Int)>0 by decide,if_true];by_cases h:i<0
   ·simp only[h,if_true]<;>omega
   ·simp only[h,if_false]<;>omega
 ·cases hi with
  |none=>simp[sliceBounds,HT.sIx]
  |some i=>
   simp only[sliceBounds,HT.sIx,Option.getD_none,show (1:Int)>0 by decide,if_true];by_cases h:i<0
   ·simp only[h,if_true]<;>omega
   ·simp only[h,if_false]<;>omega
theorem ao2(its:List Value)(lo hi:Option Int):slicePick its.toArray lo hi none=((its.drop (HT.sIx its.length 0 lo)).take (HT.sIx its.length its.length hi-HT.sIx its.length 0 lo)).toArray:=by
 obtain⟨h1,h2,h3⟩:=Ir lo hi its.toArray.size;unfold slicePick;rw[h1,h2,h3];simp only[sliceRange_one,pick_run,bJ]<;>rfl
def yC(K:FG):V->Option Int->Option Int->Hp->VK->Prop:=λx lo hi H Q=>∃a xs,x=.ref a/\SqL K H a xs/\∀p,H p=none->Q (.ref p) (upd H p (.lst (lZ xs lo hi)))
theorem TQ:yg X (yC X.K):=by
 intro pins s σ H x v vl vu lo hi sl Q I rx hs pl pu h;obtain⟨a,xs,rfl,hx,q⟩:=h;cases rx;obtain⟨its,r,ht,hz⟩:=I.list hx;have hlen:=r.length;refine⟨"list",_,slot_list_getitem.lookup,ht.isList.typeIs,?_⟩;refine wpAny_getItem_list_slice ht.isList hs pl pu .none (by simp) ?_ (by rw[bJ]<;>omega);rw[ao2,←hlen];refine⟨.ref s.heap.objs.size,_,I.laid (t':=s.toks) (o:=.lst (lZ xs lo hi)) (λb ob q=>bD _ q) (aX _) ?_,rfl,q _ (I.hok.fresh (aX _))⟩
 exact⟨bR (SH xs lo hi) hz,_,0,(r.drop (HT.sIx xs.length 0 lo)).take (HT.sIx xs.length xs.length hi-HT.sIx xs.length 0 lo),bO _ rfl⟩
noncomputable def kI:V->Bool
 |.non=>true
 |.bl _=>true
 |.int _=>true
 |.str _=>true
 |_=>false
noncomputable def lX:V->V->Bool
 |.non,.non=>true
 |.bl a,.bl b=>a==b
 |.bl a,.int b=>(if a then 1 else 0)==b
 |.int a,.bl b=>a==(if b then 1 else 0)
 |.int a,.int b=>a==b
 |.str a,.str b=>a==b
 |_,_=>false
theorem Ql{A:Around}{s:Shared}{y x:V}{u v:Value}(ry:RelV y u)(rx:RelV x v)(fy:kI y=true)(fx:kI x=true):SeqAt.EqAt A s u v (lX y x):=by
 cases y with
 |non=>
  cases ry;cases x with
  |non=>cases rx;exact SeqAt.EqAt.same _
  |bl b=>cases rx;exact SeqAt.EqAt.none_bool b
  |int b=>obtain⟨t,rfl⟩:=rx;exact SeqAt.EqAt.none_int b t
  |str b=>obtain⟨t,rfl⟩:=rx;exact SeqAt.EqAt.none_str b t
  |_=>exact absurd (show false=true from fx) bG
 |bl a=>
  cases ry;cases x with
  |non=>cases rx;exact SeqAt.EqAt.bool_none a
  |bl b=>cases rx;exact SeqAt.EqAt.bool_bool a b
  |int b=>obtain⟨t,rfl⟩:=rx;exact SeqAt.EqAt.bool_int a b t
  |str b=>obtain⟨t,rfl⟩:=rx;exact SeqAt.EqAt.bool_str a b t
  |_=>exact absurd (show false=true from fx) bG
 |int a=>
  obtain⟨t',rfl⟩:=ry;cases x with
  |non=>cases rx;exact SeqAt.EqAt.int_none a t'
  |bl b=>cases rx;exact SeqAt.EqAt.int_bool a t' b
  |int b=>obtain⟨t,rfl⟩:=rx;exact SeqAt.EqAt.int_int a t' b t
  |str b=>obtain⟨t,rfl⟩:=rx;exact SeqAt.EqAt.int_str a t' b t
  |_=>exact absurd (show false=true from fx) bG
 |str a=>
  obtain⟨t',rfl⟩:=ry;cases x with
  |non=>cases rx;exact SeqAt.EqAt.str_none a t'
  |bl b=>cases rx;exact SeqAt.EqAt.str_bool a t' b
  |int b=>obtain⟨t,rfl⟩:=rx;exact SeqAt.EqAt.str_int a t' b t
  |str b=>obtain⟨t,rfl⟩:=rx;exact SeqAt.EqAt.str_str a t' b t
  |_=>exact absurd (show false=true from fx) bG
 |_=>exact absurd (show false=true from fy) bG
noncomputable def jI(x:V)(u:Value):Bool:=match u with
 |.none=>lX .non x
 |.bool b=>lX (.bl b) x
 |.int i _=>lX (.int i) x
 |.str z _=>lX (.str z) x
 |_=>false
theorem Jd{x y:V}{u:Value}(r:RelV y u)(f:kI y=true):jI x u=lX y x:=by
 cases y with
 |non=>cases r;rfl
 |bl b=>cases r;rfl
 |int i=>obtain⟨t,rfl⟩:=r;rfl
 |str z=>obtain⟨t,rfl⟩:=r;rfl
 |_=>exact absurd (show false=true from f) bG
theorem pj{x:V}:∀{xs:List V} {us:List Value},Vals xs us->xs.all kI=true->us.any (jI x)=xs.any λy=>lX y x
 |_,_,.nil,_=>rfl
 |y::xs,u::us,.cons r t,f=>by
  rw[List.all_cons,bV] at f;rw[cG,cG,Jd r f.1,pj t f.2]
theorem oX{A:Around}{s:Shared}{x:V}{v:Value}(rx:RelV x v)(fx:kI x=true):∀{xs:List V} {us:List Value},Vals xs us->xs.all kI=true->∀u∈us,SeqAt.EqAt A s u v (jI x u)
 |_,_,.nil,_=>λu hu=>by cases hu
 |y::xs,u::us,.cons r t,f=>λu' hu=>by
  rw[List.all_cons,bV] at f;rcases bA.mp hu with rfl | hu
  ·rw[Jd r f.1];exact Ql r rx f.1 fx
  ·exact oX rx fx t f.2 u' hu
noncomputable def j7(x:V)(xs:List V):Bool:=xs.any λy=>lX y x
def pA(K:FG)(neg:Bool):R2:=λx y H Q=>∃p xs,y=.ref p/\(SqL K H p xs∨SqT K H p xs)/\kI x=true/\xs.all kI=true/\Q (.bl (if neg then !j7 x xs else j7 x xs)) H
theorem RO:gI X (compareOp .In) (pA X.K false):=by
 intro pins s σ H x y v u Q I rx ry h;obtain⟨p,xs,rfl,hq,fx,fs,q⟩:=h;cases ry;rcases hq with hq | hq
 ·obtain⟨its,r,pl,hz⟩:=I.list hq;refine SeqAt.in_listAt (jI x) pl.isList (λw hw=>oX rx fx r fs w (by simpa using hw)) ⟨.bl _,H,I,rfl,?_⟩;rw[show its.toArray.any (jI x)=its.any (jI x) by simp,pj r fs];exact q
 ·obtain⟨its,r,pl,hz⟩:=I.tuple hq;refine SeqAt.in_tupleAt (jI x) pl (λw hw=>oX rx fx r fs w (by simpa using hw)) ⟨.bl _,H,I,rfl,?_⟩;rw[show its.toArray.any (jI x)=its.any (jI x) by simp,pj r fs];exact q
theorem aqT:gI X (compareOp .NotIn) (pA X.K true):=by
 intro pins s σ H x y v u Q I rx ry h;obtain⟨p,xs,rfl,hq,fx,fs,q⟩:=h;cases ry;rcases hq with hq | hq
 ·obtain⟨its,r,pl,hz⟩:=I.list hq;refine SeqAt.notIn_listAt (jI x) pl.isList (λw hw=>oX rx fx r fs w (by simpa using hw)) ⟨.bl _,H,I,rfl,?_⟩;rw[show its.toArray.any (jI x)=its.any (jI x) by simp,pj r fs];exact q
 ·obtain⟨its,r,pl,hz⟩:=I.tuple hq;refine SeqAt.notIn_tupleAt (jI x) pl (λw hw=>oX rx fx r fs w (by simpa using hw)) ⟨.bl _,H,I,rfl,?_⟩;rw[show its.toArray.any (jI x)=its.any (jI x) by simp,pj r fs];exact q
theorem RB:jN X (.builtin "len") (λxs H Q=>∃p ys,xs=[.ref p]/\(SqL X.K H p ys∨SqT X.K H p ys)/\Q (.int ys.length) H):=by
 intro pins s σ H xs us Q I r h;obtain⟨p,ys,rfl,hq,q⟩:=h;obtain⟨u,rfl,rx⟩:=jh r;cases rx;have hn:=ni;rcases hq with hq | hq
 ·obtain⟨its,r',pl,hz⟩:=I.list hq;have hlen:=r'.length;exact Calls.call_len_list pl.isList (by simp only[bJ]<;>omega) ⟨.int ys.length,H,I.tok _,⟨s.toks+1,by rw[bJ,hlen]⟩,q⟩
 ·obtain⟨its,r',pl,hz⟩:=I.tuple hq;have hlen:=r'.length;exact len_tuple pl (by simp only[bJ]<;>omega) ⟨.int ys.length,H,I.tok _,⟨s.toks+1,by rw[bJ,hlen]⟩,q⟩
theorem Se:jN X (.builtin "len") (λxs H Q=>∃z,xs=[.str z]/\z.length<=sizeLine/\Q (.int z.length) H):=by
 intro pins s σ H xs us Q I r h;obtain⟨z,rfl,hz,q⟩:=h;obtain⟨u,rfl,t,rfl⟩:=jh r;have hn:=ni;exact len_str ⋯ ⟨.int z.length,H,I.tok _,⟨()⟩,q⟩
theorem MX:jN X (.type "list") (λxs H Q=>∃p ys,xs=[.ref p]/\(SqL X.K H p ys∨SqT X.K H p ys)/\∀l,H l=none->Q (.ref l) (upd H l (.lst ys))):=by
 intro pins s σ H xs us Q I r h;obtain⟨p,ys,rfl,hq,q⟩:=h;obtain⟨u,rfl,rx⟩:=jh r;cases rx;have eY:∀(its:List Value),Vals ys its->ys.length<=sizeLine->∀(h':Heap) (c':Nat),(∀b o',s.heap.get? b=some o'->h'.get? b=some o')->
   h'.get? s.heap.objs.size=some {cls:=.type "list",dict:=none,data:=.seq its.toArray c',slots:= #[]}->EP X pins σ Q (.ref s.heap.objs.size) {s with heap:=h'}:=λits r' hz h' c' kp e=>
  ⟨.ref s.heap.objs.size,_,I.laid (t':=s.toks) kp (aX _) (show ObjOk X.prog X.w _ h' _ (.lst ys) from ⟨hz,its,c',r',e⟩),rfl,q _ (I.hok.fresh (aX _))⟩
 rcases hq with hq | hq
 ·obtain⟨its,r',pl,hz⟩:=I.list hq;have hlen:=r'.length;obtain⟨o,ho,hc,n,hd⟩:=pl.isList;exact call_list_seq p (.inl rfl) ho hc hd (λh' c' kp e=>eY its r' hz h' c' kp e) (by simp only[bJ]<;>omega)
 ·obtain⟨its,r',pl,hz⟩:=I.tuple hq;have hlen:=r'.length;obtain⟨o,ho,hc,n,hd⟩:=pl;exact call_list_seq p (.inr rfl) ho hc hd (λh' c' kp e=>eY its r' hz h' c' kp e) (by simp only[bJ]<;>omega)
theorem ao7:jN X (.type "tuple") (λxs H Q=>∃p ys,xs=[.ref p]/\((SqL X.K H p ys/\∀l,H l=none->Q (.ref l) (upd H l (.tup ys)))∨(SqT X.K H p ys/\Q (.ref p) H))):=by
 intro pins s σ H xs us Q I r h;obtain⟨p,ys,rfl,h⟩:=h;obtain⟨u,rfl,rx⟩:=jh r;cases rx;rcases h with ⟨hq,q⟩ | ⟨hq,q⟩
 ·obtain⟨its,r',pl,hz⟩:=I.list hq;have hlen:=r'.length;refine call_tuple_list pl.isList (λh' kp=>?_) (by simp only[bJ]<;>omega);have I1:Inv X pins σ H {s with heap:=h'}:=I.kept (t':=s.toks) kp;have I2:Inv X pins σ (upd H h'.objs.size (.tup ys)) {s with heap:=h'.push {cls:=.type "tuple",data:=.seq its.toArray} }:=
   I1.laid (t':=s.toks) (λb o e=>bD _ e) (aX _) (show ObjOk X.prog X.w _ _ _ (.tup ys) from ⟨hz,its,r',IsTup.new _ _⟩)
  exact⟨.ref h'.objs.size,_,I2,rfl,q _ (I1.hok.fresh (aX _))⟩
 ·obtain⟨its,r',pl,hz⟩:=I.tuple hq;exact call_tuple_same pl ⟨.ref p,H,I,rfl,q⟩
def B3(K:FG)(T:String)(x:V)(H:Hp):Prop:=match x with
 |.str _=>T="str"
 |.int _=>T="int"
 |.ref p=>(T="list"/\∃xs,SqL K H p xs)∨(T="tuple"/\∃o,K.lookup p=some o/\o.cls=.type "tuple"/\o.dict=none)∨
   (T="dict"/\((∃kvs,H p=some (.dK kvs))∨∃kvs,H p=some (.dT kvs)))∨(T="set"/\∃S n,H p=some (.set S n))
 |_=>False
theorem Gn{pins:List (Addr×Obj)}{σ:St}{H:Hp}{s:Shared}{T:String}{x:V}{v:Value}(I:Inv X pins σ H s)(r:RelV x v)(ty:B3 X.K T x H):
  s.TypeIs v T/\∀a,v=.ref a->∃ob,s.heap.get? a=some ob/\ob.dict=none:=by
 cases x with
 |str z=>
  obtain⟨t,rfl⟩:=r;cases (show T="str" from ty);exact⟨typeIs_str s z t,λ_ e=>nomatch e⟩
 |int i=>
  obtain⟨t,rfl⟩:=r;cases (show T="int" from ty);exact⟨typeIs_int s i t,λ_ e=>nomatch e⟩
 |ref p=>
  cases r;rcases ty with ⟨rfl,xs,hq⟩ | ⟨rfl,o,hk,hc,hd⟩ | ⟨rfl,hk⟩ | ⟨rfl,S,n,hk⟩
  ·obtain⟨its,_,pl,_⟩:=I.list hq;refine⟨pl.isList.typeIs,λa e=>?_⟩;cases e;obtain⟨o,n,e,c,hd,_⟩:=pl;exact⟨o,e,hd⟩
  ·refine⟨⟨o,I.kIn p o hk,hc⟩,λa e=>?_⟩;cases e;exact⟨o,I.kIn _ o hk,hd⟩
  ·have z:∃o,s.heap.get? p=some o/\o.ExactDict:=by
    rcases hk with ⟨kvs,hk⟩ | ⟨kvs,hk⟩
    ·obtain⟨_,_,_,_,o,_,_,e,ex,_⟩:=I.hok p _ hk;exact⟨o,e,ex⟩
    ·obtain⟨_,_,_,_,o,_,_,e,ex,_⟩:=I.hok p _ hk;exact⟨o,e,ex⟩
   obtain⟨o,e,ex⟩:=z;refine⟨⟨o,e,ex.1⟩,λa e2=>?_⟩;cases e2;exact⟨o,e,ex.2.1⟩
  ·obtain⟨o,_,_,_,e,ex,_⟩:=I.hok p _ hk;refine⟨⟨o,e,ex.1⟩,λa e2=>?_⟩;cases e2;exact⟨o,e,ex.2.1⟩
 |_=>exact False.elim ty
def Gm(K:FG)(T:String)(r:V->List V->Hp->VK->Prop)(to:TE):TE:=λσ H Q=>to σ H λx H1=>B3 K T x H1/\r x [] H1 Q
def nB(K:FG)(T:String)(r:V->List V->Hp->VK->Prop)(to:TE)(t:TA):TE:=λσ H Q=>to σ H λx H1=>B3 K T x H1/\t σ H1 λxs H2=>r x xs H2 Q
variable{o e:Expr}{es:List Expr}{to:TE}{t:TA}{name:Str}{apos cpos:Pos}{T id:String}{r:V->List V->Hp->VK->Prop}
theorem VA(pa:PlainAttrs T)(slot:Slot T name id)(hty:typeOf (.builtin id)=pure (.type "method_descriptor"))(hm:mX X id r)(ho:PE X o to)
  (hbase:attributeBase o name X.env (eval o X.env)=eval o X.env:=by rfl) (hline:(apos.endLine==cpos.line)=true:=by rfl):PE X (.Call (.Attribute o name apos) [] [] cpos) (Gm X.K T r to):=by
 intro pins s σ H Q I h;refine wpAny_Call_method0_late hbase hline (eT (ho pins s σ H _ I h) λv s1 ⟨x,H1,I1,r1,ty,q1⟩=>?_);obtain⟨h1,h2⟩:=Gn I1 r1 ty;exact⟨T,id,pa,slot,hty,h1,h2,Calls.callWith_builtin rfl (PySem.evalArgs_none (hm pins s1 σ H1 x [] v [] Q I1 r1 .nil q1))⟩
theorem oU(pa:PlainAttrs T)(slot:Slot T name id)(hty:typeOf (.builtin id)=pure (.type "method_descriptor"))(hm:mX X id r)(ho:PE X o to)(ha:PA X (e::es) t)
  (hbase:attributeBase o name X.env (eval o X.env)=eval o X.env:=by rfl)
  (hfew:((backTo cpos (starEach (e::es) X.env)).all (λx=> !x.1)&&(backToKw cpos (keywordEach [] X.env)).all (λx=>x.1.isSome)
   &&decide ((e::es).length+([]:List Keyword).length+(if ([]:List Keyword).isEmpty then 0 else 1)<30))=true:=by rfl)
  (hline:(apos.endLine==cpos.line)=true:=by rfl) (hs:starEach (e::es) X.env=(false,eval e X.env)::starEach es X.env:=by rfl) (hplain:(backTo cpos (starEach es X.env)).any (·.1)=false:=by rfl):
  PE X (.Call (.Attribute o name apos) (e::es) [] cpos) (nB X.K T r to t):=by
 intro pins s σ H Q I h;refine wpAny_Call_method_late hbase hfew hline rfl (eT (ho pins s σ H _ I h) λv s1 ⟨x,H1,I1,r1,ty,q1⟩=>?_);obtain⟨h1,h2⟩:=Gn I1 r1 ty;refine⟨T,id,pa,slot,hty,h1,h2,?_⟩;have hA:=ha cpos pins s1 σ H1 _ I1 q1;rw[hs] at hA ⊢;refine Calls.callWith_builtin (by show (false||(backTo cpos (starEach es X.env)).any (·.1))=false;rw[hplain]<;>rfl) (Calls.evalArgs_plain ?_)
 exact eT hA λus s2 ⟨vs,H2,I2,r2,q2⟩=>hm pins s2 σ H2 x vs v us Q I2 r1 r2 q2
end
def MtM(X:Cx)(id:String)(r:V->List V->Hp->VK->Prop):Prop:=
 ∀(pins:List (Addr×Obj)) (s:Shared) (σ:St) (H:Hp) (x:V) (xs:List V) (v:Value) (us:List Value) (Q:VK),Inv X pins σ H s->RelV x v->Vals xs us->r x xs H Q->
  wpAny (model X.prog X.w) X.A (call (.builtin id) (v::us)) (EP X pins σ Q) X.xe s
theorem Vals.one:∀{x:V} {us:List Value},Vals [x] us->∃u,us=[u]/\RelV x u
 |_,_,.cons r .nil=>⟨(),r⟩
section
variable{X:Cx}{pins:List (Addr×Obj)}{σ:St}{H:Hp}{s:Shared}{l b:Addr}{xs ys zs:List V}
theorem Inv.lset{its its':List Value}{n:Nat}{f:Array Value->Array Value}{t':Nat}(I:Inv X pins σ H s)(hH:H l=some (.lst xs))
  (e:s.heap.get? l=some {cls:=.type "list",data:=.seq its.toArray n}) (hf:f its.toArray=its'.toArray) (hv:Vals ys its') (hz:ys.length<=sizeLine):
  Inv X pins σ (upd H l (.lst ys)) {s with heap:=s.heap.update l (Obj.mapSeq f),toks:=t'}:=by
 have q:=PySem.IsL.update e f;rw[hf] at q;refine I.write (x:=l) (e:=l) (by rw[hH];exact trivial) (.inl rfl) (λb' u hb hu=>(Heap.get?_update_other s.heap (Obj.mapSeq f) (Ne.symm hb)).trans hu) ⟨_,q⟩ ?_;exact⟨hz,its',_,hv,q⟩
theorem Inv.lnew{its:List Value}{t':Nat}(I:Inv X pins σ H s)(hv:Vals ys its)(hz:ys.length<=sizeLine):
  Inv X pins σ (upd H s.heap.objs.size (.lst ys)) {s with heap:=s.heap.push {cls:=.type "list",data:=.seq its.toArray},toks:=t'}:=
 I.laid (λ_ _ q=>bD _ q) (aX _) ⟨hz,its,0,hv,bO _ rfl⟩
theorem Inv.fresh(I:Inv X pins σ H s):H s.heap.objs.size=none:=I.hok.fresh (aX _)
theorem Inv.lstM(I:Inv X pins σ H s)(hH:H l=some (.lst xs)):xs.length<=sizeLine/\∃(its:List Value) (n:Nat),Vals xs its/\xs.length=its.length/\s.heap.get? l=some {cls:=.type "list",data:=.seq its.toArray n}:=by
 obtain⟨z,its,n,r,e⟩:=I.hok l _ hH;exact⟨z,its,n,r,r.length,e⟩
end
section
variable{X:Cx}
def Jw:V->List V->Hp->VK->Prop:=λx vs H Q=>∃l xs y,x=.ref l/\vs=[y]/\H l=some (.lst xs)/\xs.length<sizeLine/\Q .non (upd H l (.lst (xs++[y])))
theorem EV:MtM X "list.append" Jw:=by
 intro pins s σ H x vs v us Q I rx rv h;obtain⟨l,xs,y,rfl,rfl,hH,hz,q⟩:=h;cases rx;obtain⟨u,rfl,ru⟩:=rv.one;obtain⟨z,its,n,r,hl,e⟩:=I.lstM hH;refine call_meets F.slot_list_append ⟨_,e,rfl⟩ F.entry_list_append (F.args_list_append_2 _ _) (PySem.list_append l its.toArray n u (by rw[bJ];omega)) ⟨e,?_⟩;refine⟨.non,_,I.lset (its':=its++[u]) hH e (by simp) (r.append (.cons ru .nil)) ?_,rfl,q⟩;rw[aZ,b7];omega
def IK:R2:=λx y H Q=>∃l b xs zs,x=.ref l/\y=.ref b/\H l=some (.lst xs)/\H b=some (.lst zs)/\xs.length+zs.length<=sizeLine/\∀p,H p=none->Q (.ref p) (upd H p (.lst (xs++zs)))
theorem Nv:gI X (binaryOp .Add) IK:=by
 intro pins s σ H x y v u Q I rx ry h;obtain⟨l,b,xs,zs,rfl,rfl,hH,hB,hz,q⟩:=h;cases rx;cases ry;obtain⟨z,its,n,r,hl,e⟩:=I.lstM hH;obtain⟨z2,its2,n2,r2,hl2,e2⟩:=I.lstM hB;refine PySem.P.add_list e e2 ?_ (by rw[bJ,bJ];omega);have ea:its.toArray++its2.toArray=(its++its2).toArray:=by simp
 rw[ea];exact⟨.ref _,_,I.lnew (t':=s.toks) (r.append r2) (by rw[aZ];omega),rfl,q _ I.fresh⟩
variable{prog:Program}{w:World}{A:Around}{E:Value->Shared->Prop}{s:Shared}
end
end L2
namespace Att
open PySem PySem.W PySem.Calls PyProof.Rows
theorem Sv{P:Params}{h:Heap}:∀(ns:List Int) (vs:List Value),WellAll P h vs (ns.map WData.int)->IntsAre vs ns:=by
 intro ns;induction ns with
 |nil=>
  intro vs w;rw[List.map_nil] at w;cases w;exact .nil
 |cons n ns ih=>
  intro vs w;rw[List.map_cons] at w;cases w with
  |cons a b=>
   cases a;exact .cons _ _ (ih _ b)
theorem Xu{l:OpenLaw}{n:Nat}(hn:l.most=some n){P:Params}{h:Heap}{args:List WData}{vals:List Value}
  (hpre:l.row.toRowW.claim.pre args=true) (hwl:WellAll P h vals args):
  ∃a vs ns,vals=[Value.ref a]/\args=[WData.list (ns.map WData.int)]/\h.get? a=some {cls:=.type "list",data:=.seq vs.toArray}/\IntsAre vs ns/\ns.length<=n:=by
 have hsh:WShape.hasAll [] args [.list .int]=true:=(pre_splitW hpre).1;have hc:l.pre.holds [] {args:=args}=true:=(pre_splitW hpre).2;obtain⟨d,r,rfl,h1,h2⟩:=hasAllW_cons hsh;obtain rfl:=hasAllW_nil h2;obtain⟨xs,rfl,h3⟩:=hasW_list h1;obtain⟨ns,rfl⟩:=items_int h3;have hlen:ns.length<=n:=by
  unfold OpenLaw.pre at hc;have h4:(WTm.not (.lt (.lit (.int (n:Int))) (.len (.arg 0)))).holds [] {args:=[.list (ns.map .int)]}=true:=by
   have h4:=(holds_andW hc).1;rw[hn] at h4;exact h4
  have h5:=condW_of h4 (w_not (w_lt w_lit (w_len_list (w_arg rfl))));rw[List.length_map] at h5;refine Nat.le_of_not_lt λq=>?_;have q':(n:Int)<((ns.length:Nat):Int):=⋯
  first
   |(rw[decide_eq_true q'] at h5;exact absurd h5 (by decide))
   |(simp at h5;omega)
 cases hwl with
 |cons w1 w2=>
  cases w2;cases w1 with
  |list ho hall=>exact⟨_,_,ns,rfl,rfl,ho,Sv ns _ hall,hlen⟩
theorem LH(l:OpenLaw)(args:List WData):l.row.toRowW.claim.post args (.bool true) args=true:=
 postW_of (r:=l.row.toRowW) (X:=(true==true))
  (show WShape.has [] (.bool true) .bool=true by first | rfl | decide | simp[WShape.has,WShape.arms,WShape.armsAll])
  (show (WTm.eq .res (.lit (.bool true))).value [] {args:=args,res:=some (.bool true),after:=args}=some (.bool (true==true)) from w_eq_bool (w_res rfl) w_lit) rfl
theorem attach_call{l:OpenLaw}{n:Nat}{q:Program}{loose:List Str}{XP:(Str->Option Value)->Heap->Prop}{YP:World->Heap->Prop}{d:DefRec}
  (hn:l.most=some n) (hdf:d.params.defaults=[])
  (call:∀(w:World) (s₀ s₁:Shared) (mg mb:Str->Option Value) (fa:Addr) (o:Obj) (pm cd doc:Value) (a:Addr) (vs:List Value) (ns:List Int),
   Ground q loose [] XP w s₀ mg mb s₁.heap->YP w s₁.heap->
   s₁.heap.get? fa=some o->o.data=.func (docDef d.name d.params d.body d.scope pm cd doc)->s₁.heap.CodeRec cd d.name->mg d.name=some (.ref fa)->
   s₁.heap.get? a=some {cls:=.type "list",data:=.seq vs.toArray}->IntsAre vs ns->ns.length<=n->s₁.gens= #[]->
   codeAny (model l.prog w) callerA (.call (.ref fa) ⟨[.ref a],[]⟩) (λr s'=>r=.ok (.ret (.bool true))/\OldK s₁.heap s'.heap/\s'.os=s₁.os/\AllBare s'.gens) s₁):
  WalkO q loose XP YP l.row.toRowW d [] (λf vs=>PySem.call f vs):=by
 intro w s₀ s₁ mg mb G Y fa o pm cd doc dV kV ho hd hcd hD hmg hg args vals as hpre hlay hrd hwl hlo;obtain rfl:dV=.none:=Dflts.none hD hdf;obtain rfl:kV=.none:=Dflts.noKw hD;obtain⟨a,vs,ns,rfl,rfl,hobj,hints,hlen⟩:=Xu hn hpre hwl;refine enter_call (codeAny_mono (call w s₀ s₁ mg mb fa o pm cd doc a vs ns G Y ho (fd_plain hd) hcd hmg hobj hints hlen hg) λr s' hq=>?_);obtain⟨rfl,h2,h3,h4⟩:=hq;exact⟨.inl ⟨.bool true,.bool true,[],rfl,λ_=>rfl,.bool true,LH l _,λ_=>⟨List.Pairwise.nil,λ_ hm=>(nomatch hm)⟩⟩,h2,h3,h4⟩
section
variable{prog:Program}{w:World}{A:Around}{E:Value->Shared->Prop}{s:Shared}{K:Frag}
end
end Att
namespace L2
open PySem PySem.Spec PyProof.Rows
theorem Ip:∀{vs:List Value} {ns:List Int},IntsAre vs ns->Vals (ns.map V.int) vs
 |_,_,.nil=>.nil
 |_,_,.cons n t h=>.cons ⟨t,rfl⟩ (Ip h)
noncomputable def gA(s:Stmt)(j:Nat):Stmt:=match s with
 |.ClassDef _ _ _ body _ _ _ _ _ _ _=>body.getD j (.Pass ⟨0,0,0,0⟩)
 |_=>.Pass ⟨0,0,0,0⟩
noncomputable def jf(s:Stmt):Arguments:=match s with
 |.FunctionDef _ a _ _ _ _ _ _ _ _=>a
 |_=>{posonlyargs:=[],args:=[],vararg:=none,kwonlyargs:=[],kw_defaults:=[],kwarg:=none,defaults:=[]}
noncomputable def iG(s:Stmt):List Stmt:=match s with
 |.FunctionDef _ _ b _ _ _ _ _ _ _=>b
 |_=>[]
noncomputable def eG(s:Stmt):Scope:=match s with
 |.FunctionDef _ _ _ _ _ _ sc _ _ _=>sc
 |_=>{kind:=.function,names:=[],isGenerator:=false,isCoroutine:=false}
abbrev je:lF:=λ_ _ _ _ _ _=>False
abbrev E0:XK:=λ_ _ _=>False
theorem ng{X:Cx}:my je X E0:=λ_ _ _ _ _ _ _ h=>h.elim
structure Fun(K:FG)(x qual:Str)(st:Stmt)(f:Addr)(fd:FuncData):Prop where
 ex:∃(oc:Value) (od:Option Addr) (kV doc pm:Value) (an:Option Addr) (cdv ct:Value) (osl:Array (Option Value)),
  fd=PySem.W.fnOf x qual (jf st) (iG st) (eG st) .none kV doc pm an cdv ct/\K.lookup f=some ⟨oc,od,.func fd,osl⟩/\PySem.W.codeIn K cdv qual=true
 kp:PySem.W.keepIn K (.ref f)=true
section
variable{P:Program}{w:World}{K:FG}{mg:Str->Option Value}{base:Heap}
theorem Fun.ok{x qual:Str}{st:Stmt}{f:Addr}{fd:FuncData}{N ps:List Str}{k:Nat}{sp:Sp}(F:Fun K x qual st f fd)(S:dW N ps (eG st))(len:∀vs H Q E,sp vs H Q E->vs.length=ps.length)
  (hbody:∀(cdv:Value) (A:Around) (outer:List Env) (s:Shared) (H:Hp) (vs:List V) (Q:VK) (E:XK),Room k (A.deeper (envOfC qual (eG st) s.heap.objs.size f cdv))->sp vs H Q E->
   ∃t,PSs (mz je P w K mg base N qual (eG st) f cdv A outer s H E).nox (iG st) t/\t {nx:=λ_ H'=>Q .non H',rt:=Q} (start N vs) H):gF P w K mg base je (k+1) f fd ps sp:=by
 obtain⟨oc,od,kV,doc,pm,an,cdv,ct,osl,rfl,lk,hcd⟩:=F.ex;refine sD lk hcd S len λA outer s H vs Q E hr hsp=>?_;obtain⟨t,h,q⟩:=hbody cdv A outer s H vs Q E hr hsp;exact⟨t,h.nox,q⟩
theorem Fun.binds{x qual:Str}{st:Stmt}{f:Addr}{fd:FuncData}{ps:List Str}(F:Fun K x qual st f fd)
  (h:∀(kV doc pm:Value) (an:Option Addr) (cdv ct:Value) (us:List Value),us.length=ps.length->bindArgs (PySem.W.fnOf x qual (jf st) (iG st) (eG st) .none kV doc pm an cdv ct) ⟨us,[]⟩=pure (ps.zip us)):Binds K fd ps []:=by
 obtain⟨oc,od,kV,doc,pm,an,cdv,ct,osl,rfl,lk,hcd⟩:=F.ex;exact .all (h kV doc pm an cdv ct)
theorem rm{x qual:Str}{st:Stmt}{f:Addr}{oc:Value}{od an:Option Addr}{osl:Array (Option Value)}{kV doc pm cdv ct:Value}(l:K.lookup f=some ⟨oc,od,.func (PySem.W.fnOf x qual (jf st) (iG st) (eG st) .none kV doc pm an cdv ct),osl⟩)
  (c:PySem.W.codeIn K cdv qual=true) (k:PySem.W.keepIn K (.ref f)=true):Fun K x qual st f (PySem.W.fnOf x qual (jf st) (iG st) (eG st) .none kV doc pm an cdv ct):=⟨⟨oc,od,kV,doc,pm,an,cdv,ct,osl,rfl,l,c⟩,k⟩
variable{X:Cx}
end
theorem fK{A B:Prop}(h:B):if false=true then A else B:=by
 rw[if_neg bG];exact h
theorem fR{A B:Prop}(h:A):if true=true then A else B:=by
 rw[if_pos rfl];exact h
theorem B7{c A B:Prop}[Decidable c](h1:c->A)(h2:¬c->B):if c then A else B:=by
 by_cases h:c
 ·rw[if_pos h];exact h1 h
 ·rw[if_neg h];exact h2 h
def Same(H H':Hp):Prop:=∀b o,H b=some o->H' b=some o
theorem Same.refl(H:Hp):Same H H:=λ_ _ h=>h
theorem Same.trans{H H1 H2:Hp}(a:Same H H1)(b:Same H1 H2):Same H H2:=λc o h=>b c o (a c o h)
theorem Same.seq{K:FG}{H H':Hp}{a:Addr}{xs:List V}(e:Same H H')(h:SqL K H a xs):SqL K H' a xs:=by
 rcases h with (h | ⟨o,h⟩) | h
 ·exact .inl (.inl (e _ _ h))
 ·exact .inl (.inr ⟨o,e _ _ h⟩)
 ·exact .inr h
section
variable{X:Cx}
theorem Wx:jN X (.builtin "isinstance") (λxs H Q=>∃i:Int,xs=[.int i,.ty "int"]/\Q (.bl true) H):=by
 intro pins s σ H xs us Q I r h;obtain⟨i,rfl,q⟩:=h;obtain⟨u,w',rfl,⟨t,rfl⟩,r2⟩:=m7 r;cases r2;exact PySem.IsiPair.int_int ⟨.bl true,H,I,rfl,q⟩
theorem Z3:jN X (.builtin "isinstance") (λxs H Q=>∃i:Int,xs=[.int i,.ty "bool"]/\Q (.bl false) H):=by
 intro pins s σ H xs us Q I r h;obtain⟨i,rfl,q⟩:=h;obtain⟨u,w',rfl,⟨t,rfl⟩,r2⟩:=m7 r;cases r2;exact PySem.IsiPair.int_bool ⟨.bl false,H,I.tok _,rfl,q⟩
end
structure Df(P:Program)(w:World)(K:FG)(mg:Str->Option Value)(base:Heap)(x:Str)(k:Nat)(ps:List Str)(sp:Sp):Prop where
 ex:∃(f:Addr) (fd:FuncData),gF P w K mg base je k f fd ps sp/\Binds K fd ps []/\mg x=some (.ref f)/\PySem.W.keepIn K (.ref f)=true
structure Fn(K:FG)(mg:Str->Option Value)(x:Str)(st:Stmt)(ps:List Str):Prop where
 ex:∃(f:Addr) (fd:FuncData),Fun K x x st f fd/\Binds K fd ps []/\mg x=some (.ref f)
section
variable{P:Program}{w:World}{K:FG}{mg:Str->Option Value}{base:Heap}{x:Str}{st:Stmt}{ps N:List Str}{k:Nat}{sp:Sp}
theorem Fn.df(F:Fn K mg x st ps)(S:dW N ps (eG st))(len:∀vs H Q E,sp vs H Q E->vs.length=ps.length)
  (hbody:∀(f:Addr) (cdv:Value) (A:Around) (outer:List Env) (s:Shared) (H:Hp) (vs:List V) (Q:VK) (E:XK),Room k (A.deeper (envOfC x (eG st) s.heap.objs.size f cdv))->sp vs H Q E->
   ∃t,PSs (mz je P w K mg base N x (eG st) f cdv A outer s H E).nox (iG st) t/\t {nx:=λ_ H'=>Q .non H',rt:=Q} (start N vs) H):Df P w K mg base x (k+1) ps sp:=by
 obtain⟨f,fd,F1,hb,hm⟩:=F.ex;exact⟨⟨f,fd,F1.ok S len (hbody f),hb,hm,F1.kp⟩⟩
theorem fB{h:Heap}{f:Addr}{oc:Value}{od an:Option Addr}{osl:Array (Option Value)}{kV doc pm cdv ct:Value}(X:K.In h)(G:h.Ns mainGlobals mg)
  (a:PySem.W.nsIn K mainGlobals x=some (some (.ref f))) (l:K.lookup f=some ⟨oc,od,.func (PySem.W.fnOf x x (jf st) (iG st) (eG st) .none kV doc pm an cdv ct),osl⟩)
  (c:PySem.W.codeIn K cdv x=true) (k:PySem.W.keepIn K (.ref f)=true)
  (hb:∀(kV doc pm:Value) (an:Option Addr) (cdv ct:Value) (us:List Value),us.length=ps.length->bindArgs (PySem.W.fnOf x x (jf st) (iG st) (eG st) .none kV doc pm an cdv ct) ⟨us,[]⟩=pure (ps.zip us)):Fn K mg x st ps:=by
 have F:=rm (st:=st) l c k;exact⟨⟨f,_,F,F.binds (ps:=ps) hb,PySem.W.mg_of X G a⟩⟩
end
section
variable{X:Cx}
theorem NG{x:Str}{k k':Nat}{ps:List Str}{sp:Sp}{e:Expr}{es:List Expr}{t:TA}{p pos:Pos}(D:Df X.prog X.w X.K X.mg X.base x k ps sp)(hr:Room k' X.A)(ha:PA X (e::es) t)(hk:k<=k':=by decide)(hg:Gl X x:=by rfl)
  (hdb:(x==("__debug__":Str))=false:=by decide) (he:starEach (e::es) X.env=(false,eval e X.env)::starEach es X.env:=by rfl) (hpl:(backTo pos (starEach es X.env)).any (·.1)=false:=by rfl):
  PE X (.Call (.Name x p) (e::es) [] pos) (pS sp [] E0 t):=by
 obtain⟨f,fd,F,hb,hm,kp⟩:=D.ex;exact Qt F (hr.mono hk) hg hm kp hb .nil ng ha hdb he hpl
end
theorem eE{H:Hp}{p:Addr}(h:H p=none)(o:HO):Same H (upd H p o):=λb u q=>by rw[eQ (gR q h)];exact q
theorem int_eq{a b:Int}:(V.int a=V.int b)↔a=b:=⟨λh=>V.int.inj h,λh=>by rw[h]⟩
theorem gX{a b:Int}{A B:Prop}(h1:a=b->A)(h2:¬a=b->B):if decide (V.int a=V.int b)=true then A else B:=
 B7 (λc=>h1 (int_eq.mp (dM c))) (λc=>h2 λe=>c (dN (int_eq.mpr e)))
theorem HU{a b:Int}{A B:Prop}(h1:¬a=b->A)(h2:a=b->B):if (!decide (V.int a=V.int b))=true then A else B:=by
 by_cases e:a=b
 ·rw[dN (int_eq.mpr e)];exact fK (h2 e)
 ·rw[dP λq=>e (int_eq.mp q)];exact fR (h1 e)
theorem il{c:Prop}[Decidable c]{A B:Prop}(h1:c->A)(h2:¬c->B):if decide c=true then A else B:=
 B7 (λq=>h1 (dM q)) (λq=>h2 λe=>q (dN e))
theorem wR{a b:Int}{A B:Prop}(e:a=b)(h:B):if (!decide (V.int a=V.int b))=true then A else B:=by
 rw[dN (int_eq.mpr e)];exact fK h
noncomputable def pF:Expr->Option Int
 |.Constant (.int i) _ _=>some i
 |_=>none
def E9(is:List Int):TA:=λ_ H Q=>Q (is.map V.int) H
theorem KL{X:Cx}:∀{es:List Expr} (is:List Int),es.map pF=is.map some->PA X es (E9 is)
 |[],[],_=>mn
 |[],_::_,h=>by cases h
 |_::_,[],h=>by cases h
 |e::es,i::is,h=>by
  have h1:pF e=some i:=(List.cons.inj h).1;have h2:es.map pF=is.map some:=(List.cons.inj h).2;obtain⟨j,pos,rfl⟩:∃j pos,e=.Constant (.int i) j pos:=by
   unfold pF at h1;split at h1
   ·cases h1;exact⟨_,()⟩
   ·cases h1
  exact mj Ju (KL is h2)
structure jH(X:Cx)(scope:Scope)(cl:List (Str×Addr)):Prop where
 is:closureFor scope X.env=pure cl
 sub:∀y c,cl.lookup y=some c->X.env.cells.lookup y=some c
 has:∀y,scope.names.lookup y=some .free->∃c,cl.lookup y=some c
 nocell:∀y∈scope.names,y.2≠ .cell
 kind:scope.kind=.function
 names:∀y∈scope.names,y.2=.local->scope.names.lookup y.1=some .local
noncomputable def ip(X:Cx)(N:List Str)(scope:Scope)(cl:List (Str×Addr))(C:Addr)(ex:List Addr)(pins:List (Addr×Obj))(s:Shared)(H:Hp):Cx:=
 {X with N:=N,s₀:=s,H₀:=H,env:=compEnvC scope cl C X.env,outer:=X.stack,stack:=X.stack,ex:=ex,fn:=λ_=>false,pn:=X.pn++pins,xe:=λ_ _=>False}
noncomputable def gZ(js:List Nat)(σ:St):St:=js.map λj=>(σ[j]?).getD none
noncomputable def Kl(ifs:List Expr)(env:Env):Sem Bool:=
 forIn ifs true λc r=>if r=true then (do let ok ←isTrue c env (eval c env);pure (ForInStep.yield ok)) else pure (ForInStep.yield r)
def PF(X:Cx)(ifs:List Expr)(t:TT):Prop:=
 ∀(pins:List (Addr×Obj)) (s:Shared) (σ:St) (H:Hp) (Q:Bool->Hp->Prop),Inv X pins σ H s->t σ H Q->
  wpAny (model X.prog X.w) X.A (Kl ifs X.env) (TP X pins σ Q) X.xe s
def Ky:TT:=λ_ H Q=>Q true H
theorem RE{X:Cx}:PF X [] Ky:=λ_ _ _ H _ I h=>wpAny_tests_nil ⟨H,I,h⟩
theorem VO{X:Cx}{c:Expr}{t:TT}(h:PT X c t):PF X [c] t:=λpins s σ H Q I q=>wpAny_tests_one (h pins s σ H Q I q)
def kN(J:It)(js:List Nat)(σ:St)(tt:TT)(te:TE)(Q:VK)(H1:Hp):Prop:=∀D,H1 D=none->∃W:Nat->Nat->Hp->Prop,(∃m,W 0 m (upd H1 D (.lst [])))/\∀i m H2,W i m H2->
 (J.stop i H2/\Q (.ref D) H2)∨(J.go i H2/\∀v H3,J.yld i H2 v H3->tt (some v::gZ js σ) H3 λb H4=>if b=true then
  te (some v::gZ js σ) H4 λy H5=>∃ys,H5 D=some (.lst ys)/\ys.length<sizeLine/\∃m',m'<m/\W (i+1) m' (upd H5 D (.lst (ys++[y])))
  else ∃m',m'<m/\W (i+1) m' H4)
def FN(wi:TI)(js:List Nat)(tt:TT)(te:TE):TE:=λσ H Q=>wi σ H λJ H1=>kN J js σ tt te Q H1
noncomputable def lL(env:Env)(n:Str)(k:NameKind):NameKind:=if (k==NameKind.free&&env.scope.kind== .function&&env.kindOf n==some .cell) then .cell else k
theorem Z2{env:Env}{n:Str}{k:NameKind}:(if (k==NameKind.free&&env.scope.kind== .function&&env.kindOf n==some .cell) then (n,NameKind.cell) else (n,k))=(n,lL env n k):=by
 unfold lL;split<;>rfl
theorem ES{env:Env}:∀(names:List (Str×NameKind)) (x:Str),(relabel {kind:=.function,names:=names,isGenerator:=false,isCoroutine:=false} env).names.lookup x=(names.lookup x).map (lL env x)
 |[],_=>rfl
 |(n,k)::r,x=>by
  have ih:=ES (env:=env) r x;unfold relabel at ih ⊢;dsimp only at ih ⊢;rw[bM];dsimp only;rw[Z2,cZ,cZ,ih];cases hx:x==n with
  |true=>
   have e:x=n:=by simpa using hx
   rw[e];rfl
  |false=>rfl
theorem BQ{env:Env}(scope:Scope)(x:Str):(relabel scope env).names.lookup x=(scope.names.lookup x).map (lL env x):=ES scope.names x
theorem P0{env:Env}{x:Str}{o:Option NameKind}(hc:o≠some .cell)(h:o.map (lL env x)=some .cell∨o.map (lL env x)=some .free):o=some .free:=by
 cases o with
 |none=>rcases h with h | h<;>cases h
 |some k=>
  by_cases e:k=.free
  ·rw[e]
  ·have z:lL env x k=k:=by
    unfold lL;have e':(k==NameKind.free)=false:=by simpa using e
    rw[e'];rfl
   rw[c5,z] at h;rcases h with h | h
   ·exact absurd h hc
   ·exact h
theorem Rk{env:Env}{scope:Scope}{x:Str}(h:scope.names.lookup x=some .free):(relabel scope env).names.lookup x=some .cell∨(relabel scope env).names.lookup x=some .free:=by
 rw[BQ,h,c5];unfold lL;split
 ·exact .inl rfl
 ·exact .inr rfl
section
variable{X:Cx}{elt iter:Expr}{x:Str}{px pos:Pos}{ifs:List Expr}{scope:Scope}{cl:List (Str×Addr)}{N':List Str}{js:List Nat}{tt:TT}{te:TE}
end
theorem ZV{prog:Program}{w:World}{A:Around}{R:Result->Shared->Prop}{s:Shared}{elt tg iter:Expr}{ifs:List Expr}{scope:Scope}{pos:Pos}{it acc:Value}{env:Env}{EN:Value->Shared->Prop}
  (hEN:EN=notedBy (model prog w) A env λe s'=>R (.error e) s') (B:Nat->Shared->Prop)
  (turn:∀n s,B n s->wpAny (model prog w) A (pyNext it) (λr s₁=>match r with
   |none=>R (.ok .next) s₁
   |some v=>wpAny (model prog w) A (letOwnedTupleGo tg it v) (λ_ s₂=>wpAny (model prog w) A (assign tg env v) (λ_ s₃=>
     wpAny (model prog w) A (Kl ifs env) (λok s₄=>
      if ok=true then wpAny (model prog w) A (eval elt env) (λz s₅=>wpAny (model prog w) A (call (.builtin "list.append") [acc,z]) (λ_ s₆=>∃m,m<n/\B m s₆) EN s₅) EN s₄
      else ∃m,m<n/\B m s₄) EN s₃) EN s₂) EN s₁) EN s) (n:Nat) (h:B n s):
  codeAny (model prog w) A (.compLoop (.ListComp elt [⟨tg,iter,ifs,0⟩] scope pos) 0 it acc env) R s:=by
 subst hEN;refine codeAny_loop rfl B (λn s hI=>?_) n h;refine wpAny_noted (m:=compTurn (.ListComp elt [⟨tg,iter,ifs,0⟩] scope pos) 0 it acc env) ?_;rw[compTurn_list];refine dG (wpAny_standAt (dG (dH (turn n s hI) (λr s₁ h₁=>?_) λ_ _ z=>z)));cases r with
 |none=>exact dR h₁
 |some v=>
  refine dG (dH h₁ (λ_ s₂ h₂=>?_) λ_ _ z=>z);refine dG (dH h₂ (λ_ s₃ h₃=>?_) λ_ _ z=>z);refine dG (dH h₃ (λok s₄ h₄=>?_) λ_ _ z=>z);cases ok with
  |false=>exact dR ⟨rfl,h₄⟩
  |true=>
   refine dG (dG (dH h₄ (λz s₅ h₅=>?_) λ_ _ q=>q));exact dG (dH h₅ (λ_ s₆ h₆=>dR (dR ⟨rfl,h₆⟩)) λ_ _ q=>q)
section
variable{X:Cx}{elt iter:Expr}{x:Str}{px pos:Pos}{ifs:List Expr}{scope:Scope}{cl:List (Str×Addr)}{N':List Str}{js:List Nat}{tt:TT}{te:TE}
end
theorem zi(env:Env):∀(names:List (Str×NameKind)) (acc:List (Str×Addr)),names.all (λy=>y.2 != .free||(env.cells.lookup y.1).isSome)=true->
  ∃cl:List (Str×Addr),(forIn (m:=Sem) names acc λx r=>(do
   let (name,kind):=x
   if kind== .free then do let c ←cellOf env name;pure (ForInStep.yield ((name,c)::r)) else pure (ForInStep.yield r)))=(pure cl:Sem _)/\
   (∀y c,cl.lookup y=some c->env.cells.lookup y=some c∨acc.lookup y=some c)/\(∀y,(∃c,acc.lookup y=some c)->∃c,cl.lookup y=some c)/\(∀y,(y,NameKind.free)∈names->∃c,cl.lookup y=some c)
 |[],acc,_=>⟨acc,rfl,λ_ _ h=>.inr h,λ_ h=>h,λ_ h=>nomatch h⟩
 |(n,k)::r,acc,h=>by
  rw[List.all_cons,bV] at h;by_cases hk:k=.free
  ·subst hk;have h1:(env.cells.lookup n).isSome=true:=by simpa using h.1
   obtain⟨c,hc⟩:=cW.mp h1;obtain⟨cl,e,p1,p2,p3⟩:=zi env r ((n,c)::acc) h.2;refine⟨cl,?_,λy c' hy=>?_,λy hy=>?_,λy hy=>?_⟩
   ·rw[←e];have q:cellOf env n=(pure c:Sem Addr):=by unfold cellOf;rw[hc]
    rw[List.forIn_cons];dsimp only;rw[if_pos (show (NameKind.free==NameKind.free)=true from rfl),q];rfl
   ·rcases p1 y c' hy with z | z
    ·exact .inl z
    ·rw[cZ] at z;cases hyn:y==n with
     |true=>
      rw[hyn] at z;have e1:y=n:=by simpa using hyn
      have e2:c=c':=by simpa using z
      rw[e1,←e2];exact .inl hc
     |false=>
      rw[hyn] at z;exact .inr z
   ·refine p2 y ?_;rw[cZ];cases hyn:y==n with
    |true=>exact⟨c,rfl⟩
    |false=>exact hy
   ·rcases bA.mp hy with z | z
    ·refine p2 y ⟨c,?_⟩;have e1:y=n:=(Prod.mk.inj z).1;rw[e1,cZ];simp
    ·exact p3 y z
  ·obtain⟨cl,e,p1,p2,p3⟩:=zi env r acc h.2;have hk':(k==NameKind.free)=false:=by simpa using hk
   refine⟨cl,?_,p1,p2,λy hy=>?_⟩
   ·rw[←e];rw[List.forIn_cons];dsimp only;rw[if_neg (by rw[hk'];exact bG)];rfl
   ·rcases bA.mp hy with z | z
    ·exact absurd (Prod.mk.inj z).2.symm hk
    ·exact p3 y z
theorem zm{X:Cx}{scope:Scope}(h:scope.names.all (λy=>y.2 != .free||(X.env.cells.lookup y.1).isSome)=true)(h2:scope.names.all (λy=>y.2 != .cell)=true)(h3:scope.kind=.function)
  (h4:scope.names.all (λy=>y.2 != .local||scope.names.lookup y.1==some .local)=true):∃cl,jH X scope cl:=by
 obtain⟨cl,e,p1,p2,p3⟩:=zi X.env scope.names [] h;refine⟨cl,?_,λy c hy=>?_,λy hy=>p3 y (PySem.mem_of_lookup hy),λy hy=>by simpa using cA.mp h2 y hy,h3,λy hy hl=>?_⟩
 ·unfold closureFor;exact Eq.trans (congrArg (λt:Sem (List (Str×Addr))=>t >>=λr=>(pure r:Sem (List (Str×Addr)))) e) rfl
 ·rcases p1 y c hy with z | z
  ·exact z
  ·simp at z
 ·have q:=cA.mp h4 y hy;simpa [hl] using q
section
variable{js:List Nat}{σ:St}{tt:TT}{te:TE}{Q:VK}{H1:Hp}
theorem xq{lo:Int}{n:Nat}(R:Nat->List V->Prop)(hn:n<=sizeLine)(h0:R 0 [])
  (hs:∀(i:Nat) (l:List V) (D:Addr) (H2:Hp) (E:V->Hp->Prop) (F:Hp->Prop),i<n->R i l->H1 D=none->Same H1 H2->H2 D=some (.lst l)->(∀y H5,Same H2 H5->R (i+1) (l++[y])->E y H5)->(∀H4,Same H2 H4->R (i+1) l->F H4)->
   tt (some (.int (lo+i))::gZ js σ) H2 λb H4=>if b=true then te (some (.int (lo+i))::gZ js σ) H4 E else F H4)
  (hd:∀(D:Addr) (H2:Hp) (l:List V),R n l->H1 D=none->Same H1 H2->H2 D=some (.lst l)->Q (.ref D) H2):kN (kZ lo n) js σ tt te Q H1:=by
 intro D hD;refine⟨λi m H2=>m=n-i/\i<=n/\Same H1 H2/\∃l,H2 D=some (.lst l)/\l.length<=i/\R i l,⟨n,by simp,bK _,eE hD _,[],dY,aX _,h0⟩,?_⟩;rintro i m H2 ⟨rfl,hi,s2,l,h2,hll,hR⟩;by_cases hlt:i<n
 ·refine .inr ⟨hlt,λv H3 y=>?_⟩;obtain⟨e,ev⟩:=y;subst e ev;refine hs i l D _ _ _ hlt hR hD s2 h2 (λz H5 s5 r5=>?_) (λH4 s4 r4=>?_)
  ·refine⟨l,s5 _ _ h2,cH hll (bC hlt hn),n-(i+1),⋯,rfl,hlt,λb o hb=>?_,l++[z],dY,by rw[aZ,b7];omega,r5⟩;rw[eQ (gR hb hD)];exact s5 _ _ (s2 _ _ hb)
  ·exact⟨n-(i+1),⋯,rfl,hlt,s2.trans s4,l,s4 _ _ h2,⋯,r4⟩
 ·have e:i=n:=⋯;subst e;exact .inl ⟨aX _,hd D H2 l hR hD s2 h2⟩
end
structure E(X:Cx)(e:Expr)(t:TE):Prop where
 h:PE X e t
structure T(X:Cx)(e:Expr)(t:TT):Prop where
 h:PT X e t
structure TW(X:Cx)(e:Expr)(t:TT):Prop where
 h:PW X e t
structure As(X:Cx)(es:List Expr)(t:TA):Prop where
 h:PA X es t
structure S(X:Cx)(st:Stmt)(t:TS):Prop where
 h:PS X st t
structure Ss(X:Cx)(sts:List Stmt)(t:TS):Prop where
 h:PSs X sts t
structure Il(X:Cx)(tg iter:Expr)(wi:TI):Prop where
 h:PI X tg iter wi
structure Gt(X:Cx)(tg:Expr)(t:TG):Prop where
 h:PG X tg t
structure pG(X:Cx)(ts:List Expr)(t:j5):Prop where
 h:oB X ts t
structure Fs(X:Cx)(ifs:List Expr)(t:TT):Prop where
 h:PF X ifs t
structure gE(X:Cx)(f:Value->Value->Sem Value)(r:R2):Prop where
 h:gI X f r
structure Kz(X:Cx)(f:Value->Sem Value)(r:V->Hp->VK->Prop):Prop where
 h:rC X f r
structure iy(X:Cx)(f:Value)(r:List V->Hp->VK->Prop):Prop where
 h:jN X f r
structure n8(X:Cx)(r:R2):Prop where
 h:pP X r
section
variable{X:Cx}{a b c e:Expr}{pos p:Pos}{ta tb tc te:TE}{t u:TT}{rest es:List Expr}{tA:TA}{op op':CmpOp}{r r':R2}{x:Str}
theorem v_(i:Nat)(hN:X.N[i]? =some x:=by rfl)(hv:sg X.env.scope x:=by first | exact Or.inl rfl | exact Or.inr (Or.inl rfl) | exact Or.inr (Or.inr rfl))(hd:(x==("__debug__":Str))=false:=by decide)(hcd:(x==("__classdict__":Str))=false:=by decide):
  E X (.Name x pos) (mE i):=⟨Mh hN hv hd hcd⟩
theorem eI{i j}:E X (.Constant (.int i) j pos) (tC (.int i)):=⟨Ju⟩
theorem eB{k j}:E X (.Constant (.bool k) j pos) (tC (.bl k)):=⟨O0⟩
theorem eN{j}:E X (.Constant .none j pos) (tC .non):=⟨V7⟩
theorem eS{z j}:E X (.Constant (.str z) j pos) (tC (.str z)):=⟨F9⟩
theorem fE{v:V}{w':Value}(hm:X.mg x=some w')(q:RelV v w')(hg:Gl X x:=by rfl)(hd:(x==("__debug__":Str))=false:=by decide):E X (.Name x pos) (tC v):=⟨Yq hg hm q hd⟩
theorem kU{n:String}(hm:X.mg x=none)(hv:bootBuiltins x=some (.type n))(hg:Gl X x:=by rfl)(hn:x≠"__name__":=by decide)(hd:(x==("__debug__":Str))=false:=by decide):E X (.Name x pos) (tC (.ty n)):=⟨Wa hg hm hv rfl hn hd⟩
theorem dZ{o:Operator}(ho:gE X (binaryOp o) r)(ha:E X a ta)(hb:E X b tb):E X (.BinOp a o b pos) (mB r ta tb):=⟨aOH ho.h ha.h hb.h⟩
theorem lg{o:UnaryOp}{r1:V->Hp->VK->Prop}(ho:Kz X (unaryOp o) r1)(ha:E X a ta):E X (.UnaryOp o a pos) (HB r1 ta):=⟨WC ho.h ha.h⟩
theorem iD(ho:gE X (compareOp op) r)(ha:E X a ta)(hb:E X b tb)(hm:behindInMarks op b=false:=by first | exact EB _ | rfl):E X (.Compare a [op] [b] pos) (mB r ta tb):=⟨T9 ho.h ha.h hb.h hm⟩
theorem D5(ho:gE X (compareOp op) r)(ho':gE X (compareOp op') r')(ha:E X a ta)(hb:E X b tb)(hc:E X c tc)(hm:lastMarks [op,op'] [b,c]=false:=by with_unfolding_all rfl):E X (.Compare a [op,op'] [b,c] pos) (rD r r' ta tb tc):=⟨WV ho.h ho'.h ha.h hb.h hc.h hm⟩
theorem D6(ho:gE X (compareOp op) r)(ho':gE X (compareOp op') r')(ha:E X a ta)(hb:E X b tb)(hc:E X c tc)(hm:lastMarks [op,op'] [b,c]=false:=by with_unfolding_all rfl):T X (.Compare a [op,op'] [b,c] pos) (rO (rD r r' ta tb tc)):=⟨Mf ho.h ho'.h ha.h hb.h hc.h hm⟩
theorem jW{o}(ha:E X a ta):E X (.BoolOp o [a] pos) ta:=⟨X9 ha.h⟩
theorem kE(ha:E X a ta)(hb:E X (.BoolOp .And (b::rest) pos) tb):E X (.BoolOp .And (a::b::rest) pos) (Kb ta tb):=⟨ZI ha.h hb.h⟩
theorem qF(ha:E X a ta)(hb:E X (.BoolOp .Or (b::rest) pos) tb):E X (.BoolOp .Or (a::b::rest) pos) (FX ta tb):=⟨aRB ha.h hb.h⟩
theorem mL(ha:E X a ta):E X (.UnaryOp .Not a pos) (D7 ta):=⟨Xp ha.h⟩
theorem lC(hc:T X c t)(ha:E X a ta)(hb:E X b tb):E X (.IfExp c a b pos) (IL t ta tb):=⟨S7 hc.h ha.h hb.h⟩
theorem eW(ho:gE X (compareOp op) r)(ha:E X a ta)(hb:E X b tb)(hm:behindInMarks op b=false:=by first | exact EB _ | rfl):T X (.Compare a [op] [b] pos) (rO (mB r ta tb)):=⟨aDR ho.h ha.h hb.h hm⟩
theorem iI(ha:T X a t):T X (.UnaryOp .Not a pos) (Ei t):=⟨P9 ha.h⟩
theorem gY(ha:E X e te)(he:∀whole,isTrue e X.env whole=(do let v ←whole;standAt e.pos;holding [v] (truthy v)):=by intro _;rfl):T X e (L2.tB te):=⟨Vl ha.h he⟩
theorem og(ha:T X a t):TW X (.BoolOp .And [a] pos) t:=⟨Qw ha.h⟩
theorem jB(ha:T X a t):TW X (.BoolOp .Or [a] pos) t:=⟨Zg ha.h⟩
theorem mP(ha:T X a t)(hb:TW X (.BoolOp .And (b::rest) pos) u):TW X (.BoolOp .And (a::b::rest) pos) (JY t u):=⟨Zp ha.h hb.h⟩
theorem iU(ha:T X a t)(hb:TW X (.BoolOp .Or (b::rest) pos) u):TW X (.BoolOp .Or (a::b::rest) pos) (FB t u):=⟨Lk ha.h hb.h⟩
theorem tW(ha:TW X e t):T X e t:=⟨ha.h.pt⟩
theorem aN:As X [] jt:=⟨mn⟩
theorem aC(ha:E X e te)(hr:As X es tA)(hs:starEach (e::es) X.env=(false,eval e X.env)::starEach es X.env:=by rfl):As X (e::es) (ju te tA):=⟨mj ha.h hr.h hs⟩
theorem FF(is:List Int)(h:es.map pF=is.map some:=by rfl):As X es (E9 is):=⟨KL is h⟩
theorem gC(ha:As X es tA):E X (.List es pos) (Hi tA):=⟨aIY ha.h⟩
theorem ij{k}(ha:As X es tA):E X (.Tuple es k pos) (Hy tA):=⟨W8 ha.h⟩
theorem eO(hr:n8 X r)(ha:E X a ta)(hb:E X b tb)(hs:J3 b:=by intro _ _;rfl):E X (.Subscript a b pos) (mB r ta tb):=⟨T1 hr.h ha.h hb.h hs⟩
theorem eD{k k':Nat}{ps:List Str}{sp:Sp}(D:Df X.prog X.w X.K X.mg X.base x k ps sp)(hr:Room k' X.A)(ha:As X (e::es) tA)(hk:k<=k':=by decide)(hg:Gl X x:=by rfl)
  (hdb:(x==("__debug__":Str))=false:=by decide) (he:starEach (e::es) X.env=(false,eval e X.env)::starEach es X.env:=by rfl) (hpl:(backTo pos (starEach es X.env)).any (·.1)=false:=by rfl):
  E X (.Call (.Name x p) (e::es) [] pos) (pS sp [] E0 tA):=⟨NG D hr ha.h hk hg hdb he hpl⟩
theorem fX{id:String}{rc:List V->Hp->VK->Prop}(hc:iy X (.builtin id) rc)(hm:X.mg x=none)(hv:bootBuiltins x=some (.builtin id))(ha:As X (e::es) tA)(hg:Gl X x:=by rfl)(hn:x≠"__name__":=by decide)(hdb:(x==("__debug__":Str))=false:=by decide)
  (he:starEach (e::es) X.env=(false,eval e X.env)::starEach es X.env:=by rfl) (hpl:(backTo pos (starEach es X.env)).any (·.1)=false:=by rfl):E X (.Call (.Name x p) (e::es) [] pos) (qx rc tA):=⟨Mj hc.h hg hm hv ha.h hn hdb he hpl⟩
theorem jd{n:String}{rc:List V->Hp->VK->Prop}(hc:iy X (.type n) rc)(hm:X.mg x=none)(hv:bootBuiltins x=some (.type n))(ha:As X (e::es) tA)(hg:Gl X x:=by rfl)(hn:x≠"__name__":=by decide)(hdb:(x==("__debug__":Str))=false:=by decide)
  (he:starEach (e::es) X.env=(false,eval e X.env)::starEach es X.env:=by rfl) (hpl:(backTo pos (starEach es X.env)).any (·.1)=false:=by rfl):E X (.Call (.Name x p) (e::es) [] pos) (qx rc tA):=⟨az7 hc.h hg hm hv ha.h hn hdb he hpl⟩
end
section
variable{X:Cx}
theorem fG:gE X (binaryOp .Add) (jb λi j=>.int (i+j)):=⟨Rx⟩
theorem gW:gE X (binaryOp .Sub) (jb λi j=>.int (i-j)):=⟨VU⟩
theorem iW:gE X (binaryOp .Mult) (rI CMul λi j=>.int (i*j)):=⟨Og⟩
theorem jO:gE X (binaryOp .FloorDiv) (rI KN λi j=>.int (i / j)):=⟨Pw⟩
theorem ig:gE X (binaryOp .Mod) (rI (λ_ j=>0<j) λi j=>.int (i%j)):=⟨ZU⟩
theorem nI:gE X (binaryOp .Pow) (rI qK λi j=>.int (i^j.toNat)):=⟨OD⟩
theorem kT:gE X (binaryOp .LShift) (rI qK λi j=>.int (i*2^j.toNat)):=⟨Tb⟩
theorem oO:gE X (binaryOp .RShift) (rI (λ_ j=>0<=j) λi j=>.int (i / 2^j.toNat)):=⟨Wm⟩
theorem pR:gE X (binaryOp .BitAnd) (jb λi j=>.int (Builtin.bitAnd i j)):=⟨Q2⟩
theorem lN:gE X (binaryOp .BitOr) (jb λi j=>.int (Builtin.bitOr i j)):=⟨QE⟩
theorem Iz:gE X (binaryOp .Add) IK:=⟨Nv⟩
theorem fU:gE X (compareOp .Eq) J0:=⟨PY⟩
theorem l6:gE X (compareOp .NotEq) Fu:=⟨S6⟩
theorem qM:gE X (compareOp .Lt) (jb λi j=>.bl (decide (i<j))):=⟨V6⟩
theorem kQ:gE X (compareOp .LtE) (jb λi j=>.bl (decide (i<=j))):=⟨K6⟩
theorem kj:gE X (compareOp .Gt) (jb λi j=>.bl (decide (j<i))):=⟨We⟩
theorem AE:gE X (compareOp .GtE) (jb λi j=>.bl (decide (j<=i))):=⟨Qj⟩
theorem xL:n8 X (Af X.K):=⟨Z7⟩
theorem xT:n8 X (BH X.K):=⟨OM⟩
theorem B4:iy X (.builtin "len") (λxs H Q=>∃p ys,xs=[.ref p]/\(SqL X.K H p ys∨SqT X.K H p ys)/\Q (.int ys.length) H):=⟨RB⟩
theorem Km:iy X (.builtin "abs") (λxs H Q=>∃i,xs=[.int i]/\Q (.int (if i<0 then -i else i)) H):=⟨aBF⟩
theorem uf(hc:X.calm=true:=by rfl):iy X (.builtin "max") (λxs H Q=>∃i j,xs=[.int i,.int j]/\Q (.int (if j>i then j else i)) H):=⟨Vv hc⟩
theorem AJ(hc:X.calm=true:=by rfl):iy X (.builtin "min") (λxs H Q=>∃i j,xs=[.int i,.int j]/\Q (.int (if j<i then j else i)) H):=⟨Wi hc⟩
theorem E1:iy X (.builtin "isinstance") (λxs H Q=>∃i:Int,xs=[.int i,.ty "int"]/\Q (.bl true) H):=⟨Wx⟩
theorem FR:iy X (.builtin "isinstance") (λxs H Q=>∃i:Int,xs=[.int i,.ty "bool"]/\Q (.bl false) H):=⟨Z3⟩
variable{e c iter tg:Expr}{te:TE}{tt:TT}{tA:TA}{wi:TI}{g:TG}{t u tb:TS}{st:Stmt}{rest body ba bb:List Stmt}{pos pos' p:Pos}{x:Str}{a1 a2:Expr}
theorem eZ:Ss X [] HC:=⟨R6⟩
theorem Sl(h1:S X st t)(h2:Ss X rest u):Ss X (st::rest) (qb t u):=⟨Zh h1.h h2.h⟩
theorem dX(h1:S X st t):Ss X [st] t:=⟨XC h1.h⟩
theorem jL:S X st He:=⟨W3⟩
theorem eF(he:E X e te):S X (.Return (some e) pos) (Ep te):=⟨aJD he.h⟩
theorem eX(hc:T X c tt)(ha:Ss X ba t)(hb:Ss X bb u):S X (.If c ba bb pos) (En tt t u):=⟨Sz hc.h ha.h hb.h⟩
theorem lO(he:E X e te)(hs:swapsWith e none pos.line X.env=pure false:=by rfl):S X (.Expr e pos) (Gk te):=⟨W2 he.h hs⟩
theorem eK(i:Nat)(he:E X e te)(hN:X.N.Nodup)(hi:X.N[i]? =some x:=by rfl)(hx:n4 X.env.scope x:=by first | exact Or.inl rfl | exact Or.inr rfl)(hs:swapsWith e (some (.Name x pos')) pos.line X.env=pure false:=by rfl)
  (hf:X.fn x=true∨X.env.scope.names.lookup x=some .local:=by first | exact .inl rfl | exact .inr rfl):S X (.Assign [.Name x pos'] e pos) (nE te (jy i)):=⟨V5 hN hi hx he.h hs hf⟩
theorem gN(i:Nat)(hN:X.N.Nodup)(hi:X.N[i]? =some x:=by rfl)(hx:n4 X.env.scope x:=by first | exact Or.inl rfl | exact Or.inr rfl)(hf:X.fn x=true∨X.env.scope.names.lookup x=some .local:=by first | exact .inl rfl | exact .inr rfl):Gt X (.Name x pos) (jy i):=⟨GS hN hi hx hf⟩
theorem j9(hi:Il X tg iter wi)(hg:Gt X tg g)(hb:Ss X body tb)(hp:PassesOwn (model X.prog X.w) X.A X.env X.xe)(hc:X.calm=true:=by rfl)(hs:∀x,foldedSetIterable iter X.env x=pure x:=by intro _;rfl):S X (.For tg iter body [] pos) (Fm wi g tb):=⟨ZC hp hc hi.h hg.h hb.h hs⟩
theorem vg(hc:T X c tt)(hb:Ss X body tb)(hp:PassesOwn (model X.prog X.w) X.A X.env X.xe):S X (.While c body [] pos) (C6 tt tb):=⟨RV hp hc.h hb.h⟩
theorem iL(hl:E X e te):Il X tg e (Ah X.K te):=⟨XA hl.h⟩
theorem iT(hl:E X e te):Il X tg e (Fo X.K te):=⟨aHU hl.h⟩
theorem oP(hm:X.mg "range"=none)(ha:As X [a1] tA)(hg:Gl X "range":=by rfl)(hs:starEach [a1] X.env=[(false,eval a1 X.env)]:=by rfl):Il X tg (.Call (.Name "range" p) [a1] [] pos) (IR tA):=⟨Xb hg hm ha.h hs⟩
theorem Ha(hm:X.mg "range"=none)(ha:As X [a1,a2] tA)(hg:Gl X "range":=by rfl)(hs:starEach [a1,a2] X.env=[(false,eval a1 X.env),(false,eval a2 X.env)]:=by rfl)(hs2:starEach [a2] X.env=[(false,eval a2 X.env)]:=by rfl):
  Il X tg (.Call (.Name "range" p) [a1,a2] [] pos) (Ec tA):=⟨YH hg hm ha.h hs hs2⟩
end
def Go(P:Program)(w:World)(K:FG)(mg:Str->Option Value)(base:Heap)(N:List Str)(x:Str)(st:Stmt)(f:Addr)(cdv:Value)(A:Around)(outer:List Env)(s:Shared)(H:Hp)(vs:List V)(Q:VK)(E:XK):Prop:=
 ∃t,Ss (mz je P w K mg base N x (eG st) f cdv A outer s H E).nox (iG st) t/\t {nx:=λ_ H'=>Q .non H',rt:=Q} (start N vs) H
section
variable{P:Program}{w:World}{K:FG}{mg:Str->Option Value}{base:Heap}{x:Str}{st:Stmt}{ps N:List Str}{k:Nat}{sp:Sp}
theorem Fn.dfs(F:Fn K mg x st ps)(S':dW N ps (eG st))(len:∀vs H Q E,sp vs H Q E->vs.length=ps.length)
  (hbody:∀(f:Addr) (cdv:Value) (A:Around) (outer:List Env) (s:Shared) (H:Hp) (vs:List V) (Q:VK) (E:XK),Room k (A.deeper (envOfC x (eG st) s.heap.objs.size f cdv))->sp vs H Q E->
   Go P w K mg base N x st f cdv A outer s H vs Q E):Df P w K mg base x (k+1) ps sp:=
 F.df S' len λf cdv A outer s H vs Q E hr h=>by
  obtain⟨t,h1,h2⟩:=hbody f cdv A outer s H vs Q E hr h;exact⟨t,h1.h,h2⟩
theorem Fun.oks{f:Addr}{fd:FuncData}(F:Fun K x x st f fd)(S':dW N ps (eG st))(len:∀vs H Q E,sp vs H Q E->vs.length=ps.length)
  (hbody:∀(cdv:Value) (A:Around) (outer:List Env) (s:Shared) (H:Hp) (vs:List V) (Q:VK) (E:XK),Room k (A.deeper (envOfC x (eG st) s.heap.objs.size f cdv))->sp vs H Q E->
   Go P w K mg base N x st f cdv A outer s H vs Q E):gF P w K mg base je (k+1) f fd ps sp:=
 F.ok S' len λcdv A outer s H vs Q E hr h=>by
  obtain⟨t,h1,h2⟩:=hbody cdv A outer s H vs Q E hr h;exact⟨t,h1.h,h2⟩
end
end L2
namespace L2
open PySem PySem.Spec PyProof.Rows PySem.SeqAt
theorem pk:∀{is:List Int} {us:List Value},Vals (is.map V.int) us->IntsAre us is
 |[],_,.nil=>.nil
 |_::_,_,.cons ⟨_,rfl⟩ r=>.cons _ _ (pk r)
section
variable{X:Cx}
theorem V9(hc:X.calm=true):jN X (.builtin "sum") (λxs H Q=>∃(p:Addr) (is:List Int),xs=[.ref p]/\SqL X.K H p (is.map V.int)/\Q (.int is.sum) H):=by
 intro pins s σ H xs us Q I r h;obtain⟨p,is,rfl,hq,q⟩:=h;obtain⟨u,rfl,r1⟩:=jh r;cases r1;obtain⟨its,rv,pl,hz⟩:=I.list hq;have hi:=pk rv;obtain⟨ys,hy⟩:=hi.allInts.items;have hl:s.heap.IsList p (intItems ys):=by rw[←hy];exact pl.isList
 refine sum_intListG (I.ok.hd hc) hl λh' tk t' hk=>?_;have e1:is=ys.toList.map (·.1):=by
  rw[←nums_intItems,←hy];exact hi.numsOf.symm
 have e2:preSum (numAt ys) ys.size=is.sum:=by
  rw[preSum_eq,dE (by simp),e1]
 rw[e2];exact⟨.int is.sum,H,I.kept hk,⟨()⟩,q⟩
noncomputable def nT(tup:Bool)(is:List Int):PyData:=if tup then .tuple (is.map PyData.int) else .list (is.map PyData.int)
noncomputable def pH(bs:List Bool):PyData:=.list (bs.map PyData.bool)
def AL(K:FG)(H:Hp)(a:Addr)(tup:Bool)(is:List Int):Prop:=if tup then SqT K H a (is.map V.int) else SqL K H a (is.map V.int)
theorem E5{pins:List (Addr×Obj)}{σ:St}{H:Hp}{s:Shared}{a:Addr}{tup:Bool}{is:List Int}(I:Inv X pins σ H s)(h:AL X.K H a tup is):∃as,Reads s.heap (.ref a) (nT tup is) as:=by
 cases tup with
 |false=>
  obtain⟨its,rv,pl,hz⟩:=I.list (show SqL X.K H a (is.map V.int) from h);exact⟨_,PySem.W.reads_of_ints pl.isList (pk rv)⟩
 |true=>
  obtain⟨its,rv,⟨o,ho,hc,n,hd⟩,hz⟩:=I.tuple (show SqT X.K H a (is.map V.int) from h);exact⟨_,Reads.tuple ho hc hd (by simpa using PySem.W.readsAll_of_ints (pk rv))⟩
theorem KH(tup:Bool)(is:List Int):shaped (nT tup is)=true:=by
 cases tup with
 |false=>exact PySem.W.shaped_ints is
 |true=>
  have h1:=PySem.W.depthAll_ints is;have h2:PyData.depth (.tuple (is.map PyData.int))<=64:=by simp only[PyData.depth];omega
  show (PyData.canLay0 (.tuple (is.map PyData.int))&&decide (PyData.depth (.tuple (is.map PyData.int))<=64))=true;rw[bV];exact⟨by simp only[PyData.canLay0];exact PySem.W.canLayAll0_ints is,dN h2⟩
theorem SU(tup:Bool)(is js:List Int):noMix (nT tup is) (nT tup js)=true:=by
 cases tup with
 |false=>show noMix (.list _) (.list _)=true;simp only[noMix];exact PySem.W.noMix_ints is js
 |true=>show noMix (.tuple _) (.tuple _)=true;simp only[noMix];exact PySem.W.noMix_ints is js
theorem aJ7(tup:Bool)(is js:List Int):same (nT tup is) (nT tup js)=decide (is=js):=by
 cases tup with
 |false=>show same (.list _) (.list _)=_;simp only[same];exact PySem.W.same_ints is js
 |true=>show same (.tuple _) (.tuple _)=_;simp only[same];exact PySem.W.same_ints is js
def Fx(K:FG)(neg:Bool):R2:=λx y H Q=>∃(a b:Addr) (tup:Bool) (is js:List Int),x=.ref a/\y=.ref b/\AL K H a tup is/\AL K H b tup js/\Q (.bl (if neg then !decide (is=js) else decide (is=js))) H
theorem Zt(hu:X.A.units+64<cLine):gI X (compareOp .Eq) (Fx X.K false):=by
 intro pins s σ H x y v u Q I rx ry h;obtain⟨a,b,tup,is,js,rfl,rfl,ha,hb,q⟩:=h;cases rx;cases ry;obtain⟨as,ra⟩:=E5 I ha;obtain⟨bs,rb⟩:=E5 I hb;exact eq_dataH_same ra rb (KH _ _) (KH _ _) hu (SU _ _ _) (by rw[aJ7];exact⟨.bl _,H,I,rfl,q⟩)
theorem oS{h:Heap}:∀{bs:List Bool} {us:List Value},Vals (bs.map V.bl) us->ReadsAll h us (bs.map PyData.bool) []
 |[],_,.nil=>.nil
 |b::_,_,.cons (rfl) r=>by
  have:=ReadsAll.cons (Reads.bool (h:=h) b) (oS (h:=h) r);simpa using this
theorem Hn:∀bs:List Bool,PyData.canLayAll0 (bs.map PyData.bool)=true
 |[]=>by simp[PyData.canLayAll0]
 |_::r=>by simp[PyData.canLayAll0,PyData.canLay0,Hn r]
theorem G1:∀bs:List Bool,PyData.depthAll (bs.map PyData.bool)<=1
 |[]=>by simp[PyData.depthAll]
 |_::r=>by
  have:=G1 r;simp only[bM,PyData.depthAll,PyData.depth];omega
theorem qy(bs:List Bool):shaped (pH bs)=true:=by
 have h1:=G1 bs;have h2:PyData.depth (.list (bs.map PyData.bool))<=64:=by simp only[PyData.depth];omega
 show (PyData.canLay0 (.list (bs.map PyData.bool))&&decide (PyData.depth (.list (bs.map PyData.bool))<=64))=true;rw[bV];exact⟨by simp only[PyData.canLay0];exact Hn bs,dN h2⟩
theorem DH:∀bs cs:List Bool,noMixAll (bs.map PyData.bool) (cs.map PyData.bool)=true
 |[],[]=>by simp[noMixAll]
 |[],_::_=>by simp[noMixAll]
 |_::_,[]=>by simp[noMixAll]
 |_::r,_::q=>by simp[noMixAll,noMix,DH r q]
theorem DM:∀bs cs:List Bool,PySem.Spec.sameAll (bs.map PyData.bool) (cs.map PyData.bool)=decide (bs=cs)
 |[],[]=>by simp[PySem.Spec.sameAll]
 |[],_::_=>by simp[PySem.Spec.sameAll]
 |_::_,[]=>by simp[PySem.Spec.sameAll]
 |n::r,k::q=>by
  simp only[bM,PySem.Spec.sameAll,PySem.Spec.same,DM r q];by_cases h:n=k<;>simp[h]
def Hv(K:FG):R2:=λx y H Q=>∃(a b:Addr) (bs cs:List Bool),x=.ref a/\y=.ref b/\SqL K H a (bs.map V.bl)/\SqL K H b (cs.map V.bl)/\Q (.bl (decide (bs=cs))) H
theorem Q0(hu:X.A.units+64<cLine):gI X (compareOp .Eq) (Hv X.K):=by
 intro pins s σ H x y v u Q I rx ry h;obtain⟨a,b,bs,cs,rfl,rfl,ha,hb,q⟩:=h;cases rx;cases ry;obtain⟨its,rv,pl,_⟩:=I.list ha;obtain⟨its',rv',pl',_⟩:=I.list hb;obtain⟨o,ho,hc,n,hd⟩:=pl.isList;obtain⟨o',ho',hc',n',hd'⟩:=pl'.isList;exact eq_dataH_same (da:=pH bs) (db:=pH cs) (Reads.list ho hc hd (by simpa using oS rv)) (Reads.list ho' hc' hd' (by simpa using oS rv')) (qy _) (qy _) hu (by show noMix (.list _) (.list _)=true;simp only[noMix];exact DH bs cs)
  (by show EP X pins σ Q (.bool (same (.list _) (.list _))) s;simp only[same];rw[DM];exact⟨.bl _,H,I,rfl,q⟩)
variable{elt iter:Expr}{x y:Str}{px py pos spos:Pos}{ifs:List Expr}{scope:Scope}{wi:TI}{tt:TT}{te:TE}
theorem iq:Fs X [] Ky:=⟨RE⟩
theorem ZQ{c:Expr}(h:T X c tt):Fs X [c] tt:=⟨VO h.h⟩
theorem xt(hc:X.calm=true:=by rfl):iy X (.builtin "sum") (λxs H Q=>∃(p:Addr) (is:List Int),xs=[.ref p]/\SqL X.K H p (is.map V.int)/\Q (.int is.sum) H):=⟨V9 hc⟩
theorem uJ(hu:X.A.units+64<cLine):gE X (compareOp .Eq) (Fx X.K false):=⟨Zt hu⟩
theorem GR(hu:X.A.units+64<cLine):gE X (compareOp .Eq) (Hv X.K):=⟨Q0 hu⟩
theorem vc{es:List Expr}{k n:Nat}{t:j5}(h:pG X es t)(hc:X.calm=true:=by rfl)(hn:(assignEach es X.env).length=n:=by rfl)(hst:(assignEach es X.env).findIdx? (·.1)=none:=by rfl):Gt X (.Tuple es k pos) (qE X.K n t):=⟨Lz hc h.h hn hst⟩
theorem mK:pG X [] tX:=⟨aFO⟩
theorem jE{e:Expr}{es:List Expr}{t:TG}{u:j5}(h1:Gt X e t)(h2:pG X es u)(hs:(assignEach (e::es) X.env).map (·.2)=assign e X.env::(assignEach es X.env).map (·.2):=by rfl):pG X (e::es) (qr t u):=⟨Wt h1.h h2.h hs⟩
theorem pX{tg e:Expr}{g:TG}(he:E X e te)(hg:Gt X tg g)(hs:swapsWithSole [tg] e pos.line X.env=pure false:=by rfl)(hw:swappedStores [tg] e X.env=pure none:=by rfl)
  (h1:(assignEach [tg] X.env).map (·.2)=[assign tg X.env]:=by rfl):S X (.Assign [tg] e pos) (nE te g):=⟨XR he.h hg.h hs hw h1⟩
end
section
variable{js:List Nat}{σ:St}{tt:TT}{te:TE}{Q:VK}{H1:Hp}
theorem kA{K:FG}{a:Addr}{xs:List V}(R:Nat->List V->Prop)(hn:xs.length<=sizeLine)(h0:R 0 [])(hq:SqL K H1 a xs)
  (hs:∀(i:Nat) (v:V) (l:List V) (D:Addr) (H2:Hp) (E:V->Hp->Prop) (F:Hp->Prop),xs[i]? =some v->R i l->H1 D=none->Same H1 H2->H2 D=some (.lst l)->(∀y H5,Same H2 H5->R (i+1) (l++[y])->E y H5)->(∀H4,Same H2 H4->R (i+1) l->F H4)->
   tt (some v::gZ js σ) H2 λb H4=>if b=true then te (some v::gZ js σ) H4 E else F H4)
  (hd:∀(D:Addr) (H2:Hp) (l:List V),R xs.length l->H1 D=none->Same H1 H2->H2 D=some (.lst l)->Q (.ref D) H2):kN (mD K a) js σ tt te Q H1:=by
 intro D hD;refine⟨λi m H2=>m=xs.length-i/\i<=xs.length/\Same H1 H2/\∃l,H2 D=some (.lst l)/\l.length<=i/\R i l,⟨xs.length,by simp,bK _,eE hD _,[],dY,aX _,h0⟩,?_⟩;rintro i m H2 ⟨rfl,hi,s2,l,h2,hll,hR⟩;by_cases hlt:i<xs.length
 ·refine .inr ⟨⟨xs,xs[i],s2.seq hq,by simp[hlt]⟩,λv H3 y=>?_⟩;obtain⟨e,ev⟩:=y;subst e;have hv:=ev xs (s2.seq hq);refine hs i v l D _ _ _ hv hR hD s2 h2 (λz H5 s5 r5=>?_) (λH4 s4 r4=>?_)
  ·refine⟨l,s5 _ _ h2,cH hll (bC hlt hn),xs.length-(i+1),⋯,rfl,hlt,λb o hb=>?_,l++[z],dY,by rw[aZ,b7];omega,r5⟩;rw[eQ (gR hb hD)];exact s5 _ _ (s2 _ _ hb)
  ·exact⟨xs.length-(i+1),⋯,rfl,hlt,s2.trans s4,l,s4 _ _ h2,⋯,r4⟩
 ·have e:i=xs.length:=⋯;subst e;exact .inl ⟨⟨xs,s2.seq hq,aX _⟩,hd D H2 l hR hD s2 h2⟩
def IntsR(i:Nat)(l:List V):Prop:=∃zs:List Int,l=zs.map V.int/\zs.length<=i
theorem IntsR.nil:IntsR 0 []:=⟨[],rfl,aX _⟩
theorem IntsR.one{i:Nat}{l:List V}(h:IntsR i l)(z:Int):IntsR (i+1) (l++[.int z]):=by
 obtain⟨zs,rfl,hl⟩:=h;exact⟨zs++[z],by rw[a8];rfl,by rw[aZ,b7];omega⟩
theorem Same.tup{K:FG}{H H':Hp}{a:Addr}{xs:List V}(e:Same H H')(h:SqT K H a xs):SqT K H' a xs:=by
 rcases h with (h | ⟨o,h⟩) | h
 ·exact .inl (.inl (e _ _ h))
 ·exact .inl (.inr ⟨o,e _ _ h⟩)
 ·exact .inr h
theorem Fy{α:Type}(f:Nat->α)(n:Nat):(List.range (n+1)).map f=(List.range n).map f++[f n]:=by rw[List.range_succ,a8];rfl
theorem uB{c:TT}{tb:TS}{D:iw}{σ:St}{H:Hp}(Pv:St->Hp->Prop)(μ:St->Hp->Nat)(h0:Pv σ H)
  (hs:∀σ H,Pv σ H->c σ H λb H1=>if b=true then ∃N:St->Hp->Prop,(∀σ' H',N σ' H'->∃m',m'<μ σ H/\m'=μ σ' H'/\Pv σ' H')/\tb {D with nx:=N,ct:=N,bk:=D.nx} σ H1 else D.nx σ H1):C6 c tb D σ H:=
 ⟨λm σ H=>m=μ σ H/\Pv σ H,⟨(),h0⟩,by
  rintro m σ H ⟨rfl,p⟩;exact hs σ H p⟩
theorem k9{X:Cx}:Kz X (unaryOp .USub) (rU λi=>.int (-i)):=⟨Nx⟩
variable{prog:Program}{w:World}{A:Around}{E:Value->Shared->Prop}{s:Shared}
end
section
variable{X:Cx}{pos:Pos}
theorem n6{o e:Expr}{to te:TE}{apos cpos:Pos}(ho:E X o to)(he:E X e te)(hbase:attributeBase o "append" X.env (eval o X.env)=eval o X.env:=by rfl)
  (hfew:((backTo cpos (starEach [e] X.env)).all (λx=> !x.1)&&(backToKw cpos (keywordEach [] X.env)).all (λx=>x.1.isSome)&&decide (([e]:List Expr).length+([]:List Keyword).length+(if ([]:List Keyword).isEmpty then 0 else 1)<30))=true:=by rfl)
  (hline:(apos.endLine==cpos.line)=true:=by rfl) (hs:starEach [e] X.env=(false,eval e X.env)::starEach [] X.env:=by rfl) (hplain:(backTo cpos (starEach [] X.env)).any (·.1)=false:=by rfl):
  E X (.Call (.Attribute o "append" apos) [e] [] cpos) (nB X.K "list" Jw to (ju te jt)):=
 ⟨oU PySem.F.plainAttrs_list PySem.F.slot_list_append PySem.F.type_list_append EV ho.h (mj he.h mn hs) hbase hfew hline hs hplain⟩
variable{js:List Nat}{σ:St}{tt:TT}{te:TE}{Q:VK}{H1:Hp}
theorem oo{K:FG}{a:Addr}{xs:List V}(R:Nat->List V->Prop)(hn:xs.length<=sizeLine)(h0:R 0 [])(hq:SqT K H1 a xs)
  (hs:∀(i:Nat) (v:V) (l:List V) (D:Addr) (H2:Hp) (E:V->Hp->Prop) (F:Hp->Prop),xs[i]? =some v->R i l->H1 D=none->Same H1 H2->H2 D=some (.lst l)->(∀y H5,Same H2 H5->R (i+1) (l++[y])->E y H5)->(∀H4,Same H2 H4->R (i+1) l->F H4)->
   tt (some v::gZ js σ) H2 λb H4=>if b=true then te (some v::gZ js σ) H4 E else F H4)
  (hd:∀(D:Addr) (H2:Hp) (l:List V),R xs.length l->H1 D=none->Same H1 H2->H2 D=some (.lst l)->Q (.ref D) H2):kN (nH K a) js σ tt te Q H1:=by
 intro D hD;refine⟨λi m H2=>m=xs.length-i/\i<=xs.length/\Same H1 H2/\∃l,H2 D=some (.lst l)/\l.length<=i/\R i l,⟨xs.length,by simp,bK _,eE hD _,[],dY,aX _,h0⟩,?_⟩;rintro i m H2 ⟨rfl,hi,s2,l,h2,hll,hR⟩;by_cases hlt:i<xs.length
 ·refine .inr ⟨⟨xs,xs[i],s2.tup hq,by simp[hlt]⟩,λv H3 y=>?_⟩;obtain⟨e,ev⟩:=y;subst e;have hv:=ev xs (s2.tup hq);refine hs i v l D _ _ _ hv hR hD s2 h2 (λz H5 s5 r5=>?_) (λH4 s4 r4=>?_)
  ·refine⟨l,s5 _ _ h2,cH hll (bC hlt hn),xs.length-(i+1),⋯,rfl,hlt,λb o hb=>?_,l++[z],dY,by rw[aZ,b7];omega,r5⟩;rw[eQ (gR hb hD)];exact s5 _ _ (s2 _ _ hb)
  ·exact⟨xs.length-(i+1),⋯,rfl,hlt,s2.trans s4,l,s4 _ _ h2,⋯,r4⟩
 ·have e:i=xs.length:=⋯;subst e;exact .inl ⟨⟨xs,s2.tup hq,aX _⟩,hd D H2 l hR hD s2 h2⟩
end
def Digs(ds ss:List Int):Prop:=Paired (λd z:Int=>0<=d/\d<z) ds ss
theorem Digs.snoc{ds ss:List Int}{d z:Int}(h:Digs ds ss)(h0:0<=d)(h1:d<z):Digs (ds++[d]) (ss++[z]):=Paired.snoc h ⟨h0,h1⟩
theorem Digs.len{ds ss:List Int}(h:Digs ds ss):ds.length=ss.length:=Paired.length h
theorem kM{H H2:Hp}{p:Addr}{o:HO}(hn:H p=none)(s:Same H H2):Same H (upd H2 p o):=λb u h=>by
 rw[eQ (gR h hn)];exact s b u h
theorem KB{a m b:Int}(h0:0<m)(h1:m<=18446744073709551616):CMul (a%m) b:=.inl ⟨Int.lt_of_lt_of_le (by decide) (cQ a (Int.ne_of_gt h0)),Int.lt_of_lt_of_le (cR a h0) h1⟩
theorem Mi:(10:Int)^(18:Int).toNat=1000000000000000000:=by decide +kernel
theorem aKE:(10:Int)^(58:Int).toNat=10000000000000000000000000000000000000000000000000000000000:=by decide +kernel
structure FnM(K:FG)(C:Addr)(m qual:Str)(st:Stmt)(ps:List Str):Prop where
 ex:∃(f:Addr) (fd:FuncData),Fun K m qual st f fd/\Binds K fd ps []/\jF K C m f
structure fZ(P:Program)(w:World)(K:FG)(mg:Str->Option Value)(base:Heap)(C:Addr)(m:Str)(k:Nat)(ps:List Str)(sp:Sp):Prop where
 ex:∃(f:Addr) (fd:FuncData),gF P w K mg base je k f fd ps sp/\Binds K fd ps []/\jF K C m f
structure Cd(K:FG)(mg:Str->Option Value)(x:Str)(C:Addr):Prop where
 at_:mg x=some (.ref C)
 cl:Cls K C
 makes:PySem.W.makesIn K C=true
 kp:PySem.W.keepIn K (.ref C)=true
section
variable{P:Program}{w:World}{K:FG}{mg:Str->Option Value}{base:Heap}{m qual:Str}{st:Stmt}{ps N:List Str}{k:Nat}{sp:Sp}{C:Addr}
theorem FnM.dfs(F:FnM K C m qual st ps)(S':dW N ps (eG st))(len:∀vs H Q E,sp vs H Q E->vs.length=ps.length)
  (hbody:∀(f:Addr) (cdv:Value) (A:Around) (outer:List Env) (s:Shared) (H:Hp) (vs:List V) (Q:VK) (E:XK),Room k (A.deeper (envOfC qual (eG st) s.heap.objs.size f cdv))->sp vs H Q E->
   Go P w K mg base N qual st f cdv A outer s H vs Q E):fZ P w K mg base C m (k+1) ps sp:=by
 obtain⟨f,fd,F1,hb,hm⟩:=F.ex;refine⟨⟨f,fd,F1.ok S' len λcdv A outer s H vs Q E hr h=>?_,hb,hm⟩⟩;obtain⟨t,h1,h2⟩:=hbody f cdv A outer s H vs Q E hr h;exact⟨t,h1.h,h2⟩
theorem gB{f:Addr}{oc:Value}{od an:Option Addr}{osl:Array (Option Value)}{kV doc pm cdv ct:Value}
  (a:PySem.W.findIn K (.ref C) m=some (some (.ref f))) (i:PySem.W.isFn K (.ref f)=true) (l:K.lookup f=some ⟨oc,od,.func (PySem.W.fnOf m qual (jf st) (iG st) (eG st) .none kV doc pm an cdv ct),osl⟩)
  (c:PySem.W.codeIn K cdv qual=true) (k:PySem.W.keepIn K (.ref f)=true)
  (hb:∀(kV doc pm:Value) (an:Option Addr) (cdv ct:Value) (us:List Value),us.length=ps.length->bindArgs (PySem.W.fnOf m qual (jf st) (iG st) (eG st) .none kV doc pm an cdv ct) ⟨us,[]⟩=pure (ps.zip us)):FnM K C m qual st ps:=by
 have F:=rm (st:=st) l c k;exact⟨⟨f,_,F,F.binds (ps:=ps) hb,⟨a,i,k⟩⟩⟩
variable{X:Cx}{x:Str}{k':Nat}{e o value:Expr}{es:List Expr}{ta tv:TE}{t:TA}{p pos apos pos':Pos}{f:Str}
theorem j2(c:Cd X.K X.mg x C)(D:fZ X.prog X.w X.K X.mg X.base C "__init__" k ps sp)(hr:Room k' X.A)(ha:As X (e::es) t)(hk:k+1<=k':=by decide)(hg:Gl X x:=by rfl)(hdb:(x==("__debug__":Str))=false:=by decide)
  (he:starEach (e::es) X.env=(false,eval e X.env)::starEach es X.env:=by rfl) (hpl:(backTo pos (starEach es X.env)).any (·.1)=false:=by rfl):E X (.Call (.Name x p) (e::es) [] pos) (rK C sp [] E0 t):=by
 obtain⟨f,fd,F,hb,hm⟩:=D.ex;exact⟨K9 ⟨c.makes,hm.at_,hm.fn,c.kp⟩ F (hr.mono hk) hg c.at_ hb .nil ng ha.h hdb he hpl⟩
theorem jm{pl:Sem Bool}(c:Cls X.K C)(D:fZ X.prog X.w X.K X.mg X.base C m k ps sp)(hr:Room k' X.A)(ho:E X o ta)(ha:As X (e::es) t)(hk:k<=k':=by decide)
  (hst:starEach (e::es) X.env=(false,eval e X.env)::starEach es X.env:=by rfl) (hpl:(backTo pos (starEach es X.env)).any (·.1)=false:=by rfl)
  (ht:eval (.Call (.Attribute o m apos) (e::es) [] pos) X.env=(do
   let ov ←eval o X.env
   standAt apos.atName
   let (f,first) ←holding [ov] (getMethod ov m pl)
   callWith pos f first (backTo pos (starEach (e::es) X.env)) (backToKw pos (keywordEach [] X.env))):=by rfl):E X (.Call (.Attribute o m apos) (e::es) [] pos) (oi C m sp [] E0 ta t):=by
 obtain⟨f,fd,F,hb,hm⟩:=D.ex;exact⟨WI ho.h c hm F (hr.mono hk) hb .nil ng ha.h hst hpl ht⟩
theorem jg(he:E X e ta)(hb:attributeBase e f X.env (eval e X.env)=eval e X.env:=by rfl):E X (.Attribute e f pos) (qC X.K ta f):=⟨Sq he.h hb⟩
theorem iY(ha:E X o ta)(hv:E X value tv)(hs:swapsWith value (some (.Attribute o f pos')) pos.line X.env=pure false:=by rfl):S X (.Assign [.Attribute o f pos'] value pos) (Es X.K ta tv f):=⟨XJ ha.h hv.h hs⟩
def xE(C:Addr):TE:=λ_ H Q=>∀x dx,H x=none->H dx=none->dx≠x->Q (.ref x) (upd (upd H dx (.own x)) x (.ins C dx []))
theorem Eg(c:Cd X.K X.mg x C)(hi:PySem.W.findIn X.K (.ref C) "__init__"=some (some (.builtin "object.__init__")))(hg:Gl X x:=by rfl)(hdb:(x==("__debug__":Str))=false:=by decide):E X (.Call (.Name x p) [] [] pos) (xE C):=by
 refine⟨λpins s σ H Q I h=>?_⟩;refine dQ (nF I hg c.at_ ?_ hdb);refine PySem.W.callWith_K0 I.kIn c.kp (wpAny_call ?_);have hq:=h (s.heap.objs.size+1) s.heap.objs.size (I.hok.fresh (Nat.le_succ _)) (I.hok.fresh (aX _)) (bE (Nat.lt_succ_self _));have I2:=Inv.made (C:=C) I;have e2:((s.heap.push PySem.W.emptyDict).push (PySem.W.instObj C s.heap.objs.size)).get? (s.heap.objs.size+1)=some (PySem.W.instObj C s.heap.objs.size):=by
  have:=bO (s.heap.push PySem.W.emptyDict) (o:=PySem.W.instObj C s.heap.objs.size) rfl
  rwa [Heap.size_push] at this
 have Y:=PySem.W.makes_of (M:=model X.prog X.w) I.kIn c.makes;refine azX I.kIn c.makes hi (λself=>PySem.W.Looks.of_pure (PySem.W.oi_bind self)) ?_;have t1:PySem.W.Looks (model X.prog X.w) ((s.heap.push PySem.W.emptyDict).push (PySem.W.instObj C s.heap.objs.size)) (typeOf (.ref (s.heap.objs.size+1))) (.ref C):=(PySem.W.Looks.ld e2).andThen .now;have t2:PySem.W.Looks (model X.prog X.w) ((s.heap.push PySem.W.emptyDict).push (PySem.W.instObj C s.heap.objs.size)) (isInstance (.ref (s.heap.objs.size+1)) (.type "object")) true:=t1.andThen (Y.top.keeps λb o q=>bD _ (bD _ q))
 refine codeAny_call_builtin PySem.W.oi_plain PySem.W.entry_oi (@PySem.W.check_slot (model X.prog X.w) _ _ _ "object.__init__" "object" "__init__" (.ref (s.heap.objs.size+1)) [] [] _ PySem.W.oi_kind PySem.W.oi_split t2 (PySem.W.oi_args (.ref (s.heap.objs.size+1))) ?_);rw[PySem.W.oi_run];exact dR (And.intro rfl ⟨V.ref (s.heap.objs.size+1),_,I2,rfl,hq⟩)
end
structure Po(X:Cx)(o:Option Expr)(t:TO):Prop where
 h:PO X o t
structure rN(X:Cx)(r:V->Option Int->Option Int->Hp->VK->Prop):Prop where
 h:yg X r
section
variable{X:Cx}{e:Expr}{te:TE}{lo hi:Option Expr}{tl th:TO}{pos p2:Pos}
theorem mr:Po X none EY:=⟨Pl⟩
theorem ku(h:E X e te):Po X (some e) (Jo te):=⟨Wu h.h⟩
theorem GB:rN X (yC X.K):=⟨TQ⟩
theorem lV{r:V->Option Int->Option Int->Hp->VK->Prop}(hr:rN X r)(he:E X e te)(hl:Po X lo tl)(hu:Po X hi th):E X (.Subscript e (.Slice lo hi none p2) pos) (ED r te tl th):=⟨QO hr.h he.h hl.h hu.h⟩
end
noncomputable def GW(xs:List Int)(lo hi:Option Int):List Int:=(xs.drop (HT.sIx xs.length 0 lo)).take (HT.sIx xs.length xs.length hi-HT.sIx xs.length 0 lo)
structure sr(K:FG)(x qual:Str)(st:Stmt)(f:Addr)(fd:FuncData):Prop where
 ex:∃(oc:Value) (od:Option Addr) (dV kV doc pm:Value) (an:Option Addr) (cdv ct:Value) (osl:Array (Option Value)),
  fd=PySem.W.fnOf x qual (jf st) (iG st) (eG st) dV kV doc pm an cdv ct/\K.lookup f=some ⟨oc,od,.func fd,osl⟩/\PySem.W.codeIn K cdv qual=true
 kp:PySem.W.keepIn K (.ref f)=true
structure FnMD(K:FG)(C:Addr)(m qual:Str)(st:Stmt)(ps:List Str)(dvs:List V):Prop where
 ex:∃(f:Addr) (fd:FuncData) (ds:List Value),sr K m qual st f fd/\Binds K fd ps []/\Vals dvs ds/\Binds K fd ps ds/\jF K C m f
structure DfMD(P:Program)(w:World)(K:FG)(mg:Str->Option Value)(base:Heap)(C:Addr)(m:Str)(k:Nat)(ps:List Str)(sp:Sp)(dvs:List V):Prop where
 ex:∃(f:Addr) (fd:FuncData) (ds:List Value),gF P w K mg base je k f fd ps sp/\Binds K fd ps []/\Vals dvs ds/\Binds K fd ps ds/\jF K C m f
section
variable{P:Program}{w:World}{K:FG}{mg:Str->Option Value}{base:Heap}{m qual:Str}{st:Stmt}{ps N:List Str}{k:Nat}{sp:Sp}{C:Addr}{dvs:List V}
theorem DfMD.dfm(D:DfMD P w K mg base C m k ps sp dvs):fZ P w K mg base C m k ps sp:=by
 obtain⟨f,fd,ds,a,b,_,_,e⟩:=D.ex;exact⟨⟨f,fd,a,b,e⟩⟩
theorem FnMD.dfs(F:FnMD K C m qual st ps dvs)(S':dW N ps (eG st))(len:∀vs H Q E,sp vs H Q E->vs.length=ps.length)
  (hbody:∀(f:Addr) (cdv:Value) (A:Around) (outer:List Env) (s:Shared) (H:Hp) (vs:List V) (Q:VK) (E:XK),Room k (A.deeper (envOfC qual (eG st) s.heap.objs.size f cdv))->sp vs H Q E->
   Go P w K mg base N qual st f cdv A outer s H vs Q E):DfMD P w K mg base C m (k+1) ps sp dvs:=by
 obtain⟨f,fd,ds,F1,hb,hv,hbd,hm⟩:=F.ex;refine⟨⟨f,fd,ds,?_,hb,hv,hbd,hm⟩⟩;obtain⟨oc,od,dV,kV,doc,pm,an,cdv,ct,osl,rfl,lk,hcd⟩:=F1.ex;refine sD lk hcd S' len λA outer s H vs Q E hr hsp=>?_;obtain⟨t,h,q⟩:=hbody f cdv A outer s H vs Q E hr hsp;exact⟨t,h.h.nox,q⟩
theorem QF{f:Addr}{oc:Value}{od an:Option Addr}{osl:Array (Option Value)}{dV kV doc pm cdv ct:Value}{ds:List Value}
  (a:PySem.W.findIn K (.ref C) m=some (some (.ref f))) (i:PySem.W.isFn K (.ref f)=true) (l:K.lookup f=some ⟨oc,od,.func (PySem.W.fnOf m qual (jf st) (iG st) (eG st) dV kV doc pm an cdv ct),osl⟩)
  (c:PySem.W.codeIn K cdv qual=true) (k:PySem.W.keepIn K (.ref f)=true)
  (hb:Binds K (PySem.W.fnOf m qual (jf st) (iG st) (eG st) dV kV doc pm an cdv ct) ps []) (hv:Vals dvs ds) (hd:Binds K (PySem.W.fnOf m qual (jf st) (iG st) (eG st) dV kV doc pm an cdv ct) ps ds):FnMD K C m qual st ps dvs:=
 ⟨⟨f,_,ds,⟨⟨oc,od,dV,kV,doc,pm,an,cdv,ct,osl,rfl,l,c⟩,k⟩,hb,hv,hd,⟨a,i,k⟩⟩⟩
variable{X:Cx}{x:Str}{k':Nat}{p pos:Pos}
theorem DK(c:Cd X.K X.mg x C)(D:DfMD X.prog X.w X.K X.mg X.base C "__init__" k ps sp dvs)(hr:Room k' X.A)(hk:k+1<=k':=by decide)(hg:Gl X x:=by rfl)(hdb:(x==("__debug__":Str))=false:=by decide):
  E X (.Call (.Name x p) [] [] pos) (rK C sp dvs E0 jt):=by
 obtain⟨f,fd,ds,F,_,hv,hb,hm⟩:=D.ex;exact⟨Xm ⟨c.makes,hm.at_,hm.fn,c.kp⟩ F (hr.mono hk) hg c.at_ hb hv ng hdb⟩
end
theorem ky{H:Hp}{xo dx:Addr}{a b:HO}(nx:H xo=none)(ndx:H dx=none):Same H (upd (upd H dx a) xo b):=λz u hb=>by
 rw[eQ (gR hb nx),eQ (gR hb ndx)];exact hb
theorem mN{H:Hp}{xo dx:Addr}{a b c:HO}(nx:H xo=none)(ndx:H dx=none):Same H (upd (upd (upd H dx a) xo b) xo c):=λz u hb=>by
 rw[eQ (gR hb nx)];exact ky nx ndx z u hb
theorem Qh{H:Hp}{xo dx:Addr}{a b c d:HO}(nx:H xo=none)(ndx:H dx=none):Same H (upd (upd (upd (upd H dx a) xo b) xo c) xo d):=λz u hb=>by
 rw[eQ (gR hb nx)];exact mN nx ndx z u hb
end L2
namespace L2
open PySem PyProof.Rows
noncomputable def Gx(p:Nat->Bool):Nat->Nat
 |0=>0
 |n+1=>Gx p n+(if p n=true then 2^n else 0)
@[irreducible] noncomputable def kF(p:Nat->Bool)(n:Nat):Nat:=Gx p n
theorem Ax(p:Nat->Bool):kF p 0=0:=by rw[kF];rfl
theorem vo(p:Nat->Bool)(n:Nat):kF p (n+1)=kF p n+(if p n=true then 2^n else 0):=by rw[kF,kF];rfl
theorem uR(p:Nat->Bool):∀n,kF p n<2^n
 |0=>by rw[Ax];decide
 |n+1=>by
  have h:=uR p n;rw[vo,Nat.pow_succ];split<;>omega
theorem Je(p:Nat->Bool):∀n i,(kF p n).testBit i=(decide (i<n)&&p i)
 |0,i=>by rw[Ax];simp
 |n+1,i=>by
  have h:=uR p n;have ih:=Je p n i;rw[vo];by_cases hp:p n=true
  ·rw[if_pos hp,Nat.add_comm];rcases Nat.lt_trichotomy i n with hi | hi | hi
   ·rw[Nat.testBit_two_pow_add_gt hi,ih];simp[hi,Nat.lt_succ_of_lt hi]
   ·subst hi;rw[Nat.testBit_two_pow_add_eq,ih];simp[hp]
   ·have h2:2^n+kF p n<2^i:=bC (by rw[Nat.pow_succ];omega) (Nat.pow_le_pow_right (by decide) hi);rw[Nat.testBit_lt_two_pow h2];have:¬i<n+1:=⋯;simp[this]
  ·rw[if_neg hp,Nat.add_zero,ih];by_cases e:i=n
   ·subst e;simp[hp]
   ·have:(i<n+1)↔(i<n):=⋯;simp[this]
noncomputable def tb(m:Int)(i:Nat):Bool:=m.toNat.testBit i
theorem jG(k:Nat):((2^k:Nat):Int)=(2:Int)^k:=by rw[Int.natCast_pow];rfl
theorem jp(k:Nat):(0:Int)<2^k:=by rw[←jG];exact Int.natCast_pos.mpr (Nat.two_pow_pos k)
theorem Hh{m:Int}(h:0<=m)(k:Nat):m / 2^k=((m.toNat >>> k:Nat):Int):=by
 obtain⟨n,rfl⟩:=bY h;rw[bQ,Nat.shiftRight_eq_div_pow,←jG,Int.natCast_ediv]
theorem ym(a b:Nat):Builtin.bitAnd (a:Int) (b:Int)=((a&&& b:Nat):Int):=bitAnd_pp (cU a) (cU b)
theorem pM(a b:Nat):Builtin.bitOr (a:Int) (b:Int)=((a||| b:Nat):Int):=by
 rw[bitOr_and,ym];have:=nat_or_add_and a b;omega
theorem qu{m:Int}(h:0<=m)(k:Nat):(Builtin.bitAnd (m / 2^k) 1=1)↔tb m k=true:=by
 rw[Hh h,show (1:Int)=((1:Nat):Int) from rfl,ym];unfold tb;rw[Nat.testBit_eq_decide_div_mod_eq,Nat.shiftRight_eq_div_pow];have:m.toNat / 2^k&&& 1=m.toNat / 2^k%2:=Nat.and_two_pow_sub_one_eq_mod _ 1;rw[this];simp only[dO];omega
theorem m8{a b:Int}(ha:0<=a)(hb:0<=b):0<=Builtin.bitAnd a b:=by rw[bitAnd_pp ha hb];exact cU _
theorem kW{a b:Int}(ha:0<=a)(hb:0<=b):0<=Builtin.bitOr a b:=by
 obtain⟨x,rfl⟩:=bY ha;obtain⟨y,rfl⟩:=bY hb;rw[pM];exact cU _
theorem mQ{a b:Int}(ha:0<=a)(hb:0<=b)(i:Nat):tb (Builtin.bitAnd a b) i=(tb a i&&tb b i):=by
 unfold tb;rw[bitAnd_pp ha hb,bQ,Nat.testBit_and]
theorem mW{a b:Int}(ha:0<=a)(hb:0<=b)(i:Nat):tb (Builtin.bitOr a b) i=(tb a i||tb b i):=by
 obtain⟨x,rfl⟩:=bY ha;obtain⟨y,rfl⟩:=bY hb;unfold tb;rw[pM,bQ,Nat.testBit_or,bQ,bQ]
theorem Bl(k i:Nat):tb (2^k) i=decide (k=i):=by
 unfold tb;rw[←jG,bQ,Nat.testBit_two_pow]
theorem ji(i:Nat):tb 0 i=false:=by unfold tb;simp
theorem ki{a b:Int}(ha:0<=a)(hb:0<=b)(h:∀i,tb a i=tb b i):a=b:=by
 have:a.toNat=b.toNat:=Nat.eq_of_testBit_eq h;omega
theorem qZ{m:Int}(h:0<=m)(k i:Nat):tb (m*2^k) i=(decide (k<=i)&&tb m (i-k)):=by
 obtain⟨x,rfl⟩:=bY h;unfold tb;rw[←jG,←Int.natCast_mul,bQ,bQ,←Nat.shiftLeft_eq,Nat.testBit_shiftLeft]
theorem nJ{m:Int}(h:0<=m)(k i:Nat):tb (m / 2^k) i=tb m (k+i):=by
 rw[Hh h];unfold tb;rw[bQ,Nat.testBit_shiftRight]
theorem nU{m:Int}{n i:Nat}(h:m<2^n)(hi:n<=i):tb m i=false:=by
 unfold tb;refine Nat.testBit_lt_two_pow (bC ?_ (Nat.pow_le_pow_right (by decide) hi));by_cases h0:0<=m
 ·have:=jG n;omega
 ·have:m.toNat=0:=⋯;rw[this];exact Nat.two_pow_pos n
@[irreducible] noncomputable def kh(p:Nat->Bool)(n:Nat):Int:=(kF p n:Nat)
theorem nP(p:Nat->Bool)(n:Nat):kh p n=(kF p n:Nat):=by rw[kh]
theorem qt(p:Nat->Bool)(n:Nat):0<=kh p n:=by rw[nP];exact cU _
theorem Qb(p:Nat->Bool):kh p 0=0:=by rw[nP,Ax];rfl
theorem qY(p:Nat->Bool)(n i:Nat):tb (kh p n) i=(decide (i<n)&&p i):=by
 unfold tb;rw[nP,bQ,Je]
theorem Kj(p:Nat->Bool)(n:Nat):kh p (n+1)=kh p n+(if p n=true then 2^n else 0):=by
 rw[nP,nP,vo,Int.natCast_add];split
 ·rw[jG]
 ·rfl
theorem xS(p:Nat->Bool)(n:Nat):kh p n<2^n:=by
 have:=uR p n;have e:=jG n;rw[nP];omega
theorem z3(n i:Nat):tb (2^n-1) i=decide (i<n):=by
 have h:=jG n;have:((2:Int)^n-1).toNat=2^n-1:=by
  have:=Nat.two_pow_pos n;omega
 unfold tb;rw[this,Nat.testBit_two_pow_sub_one]
noncomputable def Jn(p:Nat->Bool)(lo:Int):Nat->List Int
 |0=>[]
 |n+1=>Jn p lo n++(if p n=true then [lo+(n:Int)] else [])
@[irreducible] noncomputable def flt(p:Nat->Bool)(lo:Int)(n:Nat):List Int:=Jn p lo n
theorem B5(p:Nat->Bool)(lo:Int):flt p lo 0=[]:=by rw[flt];rfl
theorem aFB{p:Nat->Bool}{lo:Int}{α:Type}{f:Int->α}:[]=(flt p lo 0).map f:=by rw[B5];rfl
theorem Ey(p:Nat->Bool)(lo:Int)(n:Nat):flt p lo (n+1)=flt p lo n++(if p n=true then [lo+(n:Int)] else []):=by rw[flt,flt];rfl
theorem uX{p:Nat->Bool}{lo:Int}{n:Nat}(h:p n=true):flt p lo (n+1)=flt p lo n++[lo+(n:Int)]:=by
 rw[Ey,if_pos h]
theorem qg{p:Nat->Bool}{lo:Int}{n:Nat}(h:p n=false):flt p lo (n+1)=flt p lo n:=by
 rw[Ey,h,if_neg bG,cF]
theorem flt_mem{p:Nat->Bool}{lo z:Int}:∀{n:Nat},z∈flt p lo n↔∃i,i<n/\p i=true/\z=lo+(i:Int)
 |0=>by rw[B5];exact⟨λh=>(nomatch h),λ⟨i,h,_⟩=>absurd h (Nat.not_lt_zero i)⟩
 |n+1=>by
  by_cases c:p n=true
  ·rw[uX c,b9,flt_mem,bW];refine⟨λh=>?_,λ⟨i,h1,h2,h3⟩=>?_⟩
   ·rcases h with ⟨i,h1,h2,h3⟩ | h
    ·exact⟨i,⋯,h2,h3⟩
    ·exact⟨n,⋯,c,h⟩
   ·by_cases e:i=n
    ·subst e;exact .inr h3
    ·exact .inl ⟨i,⋯,h2,h3⟩
  ·rw[qg (by simpa using c),flt_mem];refine⟨λ⟨i,h1,h2,h3⟩=>⟨i,⋯,h2,h3⟩,λ⟨i,h1,h2,h3⟩=>⟨i,?_,h2,h3⟩⟩;have:i≠n:=λe=>c (e▸h2);omega
theorem UY{p:Nat->Bool}{lo:Int}{n k:Nat}(h:∀i,n<=i->p i=false)(hk:n<=k):flt p lo k=flt p lo n:=by
 obtain⟨d,rfl⟩:=Nat.exists_eq_add_of_le hk;clear hk;induction d with
 |zero=>rfl
 |succ d ih=>rw[show n+(d+1)=(n+d)+1 from rfl,qg (h _ ⋯),ih]
noncomputable def iK(zs:List Int):Int:=zs.foldl (λa z=>Builtin.bitOr a (1*2^z.toNat)) 0
theorem T3(zs:List Int)(z:Int):iK (zs++[z])=Builtin.bitOr (iK zs) (1*2^z.toNat):=by unfold iK;rw[List.foldl_append];rfl
theorem De:∀(zs:List Int) (a:Int),0<=a->0<=zs.foldl (λa z=>Builtin.bitOr a (1*2^z.toNat)) a/\∀i,tb (zs.foldl (λa z=>Builtin.bitOr a (1*2^z.toNat)) a) i=(tb a i||zs.any λz=>decide (z.toNat=i))
 |[],a,h=>⟨h,λi=>by simp⟩
 |z::zs,a,h=>by
  have e:(1*2^z.toNat:Int)=2^z.toNat:=⋯;have p:=b8 (jp z.toNat);obtain⟨h1,h2⟩:=De zs (Builtin.bitOr a (1*2^z.toNat)) (by rw[e];exact kW h p);refine⟨h1,λi=>?_⟩;show tb (zs.foldl _ (Builtin.bitOr a (1*2^z.toNat))) i=_;rw[h2 i,e,mW h p,Bl,cG,Bool.or_assoc]
theorem oR(zs:List Int):0<=iK zs:=(De zs 0 (bB 0)).1
theorem rT(zs:List Int)(i:Nat):tb (iK zs) i=zs.any λz=>decide (z.toNat=i):=by
 have h:=(De zs 0 (bB 0)).2 i;rw[ji,Bool.false_or] at h;exact h
theorem US{m:Int}(h:0<=m):m<2^Builtin.Int.intBits m:=by
 unfold Builtin.Int.intBits;split
 ·rename_i c;have:m=0:=by simpa using c
  rw[this];decide
 ·have:=Nat.lt_log2_self (n:=m.natAbs);have e:=jG (m.natAbs.log2+1);omega
theorem vb{m:Int}{n:Nat}(h:0<=m)(hn:m<2^n):Builtin.Int.intBits m<=n:=by
 unfold Builtin.Int.intBits;split
 ·exact bK _
 ·rename_i c;have h0:m≠0:=by simpa using c
  have e:=jG n;have:m.natAbs.log2<n:=(Nat.log2_lt ⋯).mpr ⋯;omega
noncomputable def l9(m:Int):List Int:=flt (tb m) 0 (Builtin.Int.intBits m)
theorem qO{m:Int}{n:Nat}(h:0<=m)(hn:m<2^n):l9 m=flt (tb m) 0 n:=
 (UY (λi hi=>nU (US h) hi) (vb h hn)).symm
theorem KZ{m:Int}(h:0<=m)(k:Nat):decide (Builtin.bitAnd (m / 2^k) 1=1)=tb m k:=by
 by_cases c:tb m k=true
 ·rw[c];exact dN ((qu h _).mpr c)
 ·have c':tb m k=false:=by simpa using c
  rw[c'];exact dP λq=>c ((qu h _).mp q)
end L2
namespace L2
open PySem PyProof.Rows
theorem VD{a b:Int}{n:Nat}(ha:0<=a)(hb:0<=b)(h1:a<2^n)(h2:b<2^n):Builtin.bitOr a b<2^n:=by
 obtain⟨x,rfl⟩:=bY ha;obtain⟨y,rfl⟩:=bY hb;have e:=jG n;have:x||| y<2^n:=Nat.or_lt_two_pow ⋯ ⋯
 rw[pM];omega
section
variable{X:Cx}{tg:Expr}
theorem HH{a b c:Int}(hc:0<c):0<=Builtin.Range.rangeSize a b c:=by
 unfold Builtin.Range.rangeSize;rw[if_pos hc];split
 ·have:0<=(b-a-1) / c:=c6 ⋯ ⋯;omega
 ·exact bB 0
end
noncomputable def rG(a:Addr)(lo hi st:Int):HO:=.ext λh=>∃t u v,h.get? a=some {cls:=.type "range",data:=.fields #[.int lo t,.int hi u,.int st v]}
section
variable{X:Cx}
theorem OF{pins:List (Addr×Obj)}{σ:St}{H:Hp}{s:Shared}{Q:VK}{lo hi st:Int}{t u v:Tok}{tk:Nat}(I:Inv X pins σ H s)(q:∀p,H p=none->Q (.ref p) (upd H p (rG p lo hi st))):
  EP X pins σ Q (.ref s.heap.objs.size) {s with heap:=s.heap.push {cls:=.type "range",data:=.fields #[.int lo t,.int hi u,.int st v]},toks:=tk}:=by
 refine⟨.ref s.heap.objs.size,upd H s.heap.objs.size (rG s.heap.objs.size lo hi st),I.laid (t':=tk) (λb u e=>bD _ e) (aX _) ?_,rfl,q _ (I.hok.fresh (aX _))⟩;have e:=bO s.heap (o:={cls:=.type "range",data:=.fields #[.int lo t,.int hi u,.int st v]}) rfl;exact⟨⟨t,u,v,e⟩,⟨_,e⟩,λh1 h2 ⟨t,u,v,z⟩ k=>⟨t,u,v,k _ z⟩⟩
theorem Cy:iy X (.type "range") (λxs H Q=>∃i j c,xs=[.int i,.int j,.int c]/\(0<c/\c<1073741824)/\∀p,H p=none->Q (.ref p) (upd H p (rG p i j c))):=by
 refine⟨λpins s σ H xs us Q I r h=>?_⟩;obtain⟨i,j,c,rfl,⟨c0,c1⟩,q⟩:=h;cases r with
 |cons r rr=>
  cases rr with
  |cons r' rr=>
   cases rr with
   |cons r'' rr=>
    cases rr;obtain⟨t,rfl⟩:=r;obtain⟨t',rfl⟩:=r';obtain⟨t'',rfl⟩:=r'';exact call_range_3 (Int.ne_of_gt c0) (OF I q) (.inl (PyProof.noPylong_small ⋯))
theorem OU{lo st:Int}:∀{n:Nat} {acc:Array Value},ItemsOf (λi v=>∃t,v=.int (lo+i*st) t) acc n->Vals ((List.range n).map λi:Nat=>V.int (lo+i*st)) acc.toList:=by
 intro n acc h;obtain⟨hz,hi⟩:=h;have key:∀(m:Nat),m<=n->Vals ((List.range m).map λi:Nat=>V.int (lo+i*st)) (acc.toList.take m):=by
  intro m;induction m with
  |zero=>intro _;exact .nil
  |succ m ih=>
   intro hm;have hlt:m<acc.toList.length:=by rw[dC];omega
   obtain⟨t,e⟩:=hi m acc.toList[m] (by rw[←Array.getElem?_toList];exact cC hlt);rw[List.range_succ,a8,bH,cC hlt];exact (ih ⋯).append (.cons ⟨t,e⟩ .nil)
 have:=key n (aX _)
 rwa [dE (by rw[dC];omega)] at this
theorem X5(hc:X.calm=true:=by rfl):iy X (.type "list") (λxs H Q=>∃(p:Addr) (lo hi st:Int) (n:Nat),xs=[.ref p]/\H p=some (rG p lo hi st)/\Builtin.Range.small lo hi st=true/\Builtin.Range.rangeSize lo hi st=(n:Int)/\n<=100000/\
  ∀l,H l=none->Q (.ref l) (upd H l (.lst ((List.range n).map λi:Nat=>V.int (lo+i*st))))):=by
 refine⟨λpins s σ H xs us Q I r h=>?_⟩;obtain⟨p,lo,hi,st,n,rfl,hp,hs,hn,hl,q⟩:=h;obtain⟨u,rfl,rx⟩:=jh r;cases rx;obtain⟨⟨t,u,v,e⟩,_,_⟩:=I.hok p _ hp;refine call_list_range (I.ok.hd hc) e hs hn (bR hl (by decide)) λh' tk acc c' kp hS hI=>?_;have hz:((List.range n).map λi:Nat=>V.int (lo+i*st)).length<=sizeLine:=by
  rw[aY,List.length_range,dI];omega
 exact⟨.ref s.heap.objs.size,_,I.laid (t':=tk) kp (aX _) (show ObjOk X.prog X.w _ h' _ (.lst _) from ⟨hz,acc.toList,c',OU hI,by simpa using hS⟩),rfl,q _ (I.hok.fresh (aX _))⟩
def KG:V->List V->Hp->VK->Prop:=λx vs H Q=>∃i,x=.int i/\vs=[]/\Q (.int (Builtin.Int.intBits i:Nat)) H
theorem Yk:mX X "int.bit_length" KG:=by
 intro pins s σ H x xs v us Q I rx rv h;obtain⟨i,rfl,rfl,q⟩:=h;cases rv;obtain⟨t,rfl⟩:=rx;exact call_int_bit_length ⟨.int _,H,I.tok _,⟨()⟩,q⟩
theorem G3{o:Expr}{to:TE}{apos cpos:Pos}(ho:E X o to)(hbase:attributeBase o "bit_length" X.env (eval o X.env)=eval o X.env:=by rfl)(hline:(apos.endLine==cpos.line)=true:=by rfl):
  E X (.Call (.Attribute o "bit_length" apos) [] [] cpos) (Gm X.K "int" KG to):=⟨VA PySem.F.plainAttrs_int PySem.F.slot_int_bit_length PySem.F.type_int_bit_length Yk ho.h hbase hline⟩
theorem xQ:iy X (.type "list") (λxs H Q=>∃p ys,xs=[.ref p]/\(SqL X.K H p ys∨SqT X.K H p ys)/\∀l,H l=none->Q (.ref l) (upd H l (.lst ys))):=⟨MX⟩
theorem Kg:iy X (.type "tuple") (λxs H Q=>∃p ys,xs=[.ref p]/\((SqL X.K H p ys/\∀l,H l=none->Q (.ref l) (upd H l (.tup ys)))∨(SqT X.K H p ys/\Q (.ref p) H))):=⟨ao7⟩
theorem jA:gE X (compareOp .Is) (λx y H Q=>y=.non/\Q (.bl (decide (x=.non))) H):=⟨VR⟩
theorem R0:gE X (compareOp .IsNot) (λx y H Q=>y=.non/\Q (.bl (!decide (x=.non))) H):=⟨aEP⟩
theorem sO:gE X (compareOp .In) (pA X.K false):=⟨RO⟩
theorem OP:gE X (compareOp .NotIn) (pA X.K true):=⟨aqT⟩
end
theorem Same.none{H H':Hp}{D:Addr}(s:Same H H')(h:H' D=none):H D=none:=by
 cases e:H D with
 |none=>rfl
 |some o=>exact absurd (h.symm.trans (s _ _ e)) (by simp)
def Keep(H H':Hp):Prop:=∀b o,(∀xs,o≠ .lst xs)->H b=some o->H' b=some o
theorem Same.keep{H H':Hp}(s:Same H H'):Keep H H':=λb o _ h=>s b o h
theorem qW{H:Hp}{D:Addr}{l l':List V}(h:H D=some (.lst l)):Keep H (upd H D (.lst l')):=λb o n hb=>by
 by_cases e:b=D
 ·subst e;rw[h] at hb;cases hb;exact absurd rfl (n l)
 ·rw[eQ e];exact hb
theorem Keep.tup{H H':Hp}(k:Keep H H'){b:Addr}{xs:List V}(h:H b=some (.tup xs)):H' b=some (.tup xs):=k b _ (λ_ z=>nomatch z) h
theorem Keep.ins{H H':Hp}(k:Keep H H'){b C dx:Addr}{fs:List (Str×V)}(h:H b=some (.ins C dx fs)):H' b=some (.ins C dx fs):=k b _ (λ_ z=>nomatch z) h
section
variable{js:List Nat}{σ:St}{tt:TT}{te:TE}{Q:VK}{H1:Hp}
end
section
variable{X:Cx}{K:FG}
theorem fV(hK:X.K=K:=by rfl):n8 X (Af K):=hK▸xL
theorem fN(hK:X.K=K:=by rfl):n8 X (BH K):=hK▸xT
theorem p8(hK:X.K=K:=by rfl):gE X (compareOp .In) (pA K false):=hK▸sO
theorem kX(hK:X.K=K:=by rfl):iy X (.builtin "len") (λxs H Q=>∃p ys,xs=[.ref p]/\(SqL K H p ys∨SqT K H p ys)/\Q (.int ys.length) H):=hK▸B4
theorem pJ(hK:X.K=K:=by rfl):rN X (yC K):=hK▸GB
end
inductive Kd where
 |int | bool | str | non | list | tuple | dict
noncomputable def Kd.nm:Kd->String
 |.int=>"int" | .bool=>"bool" | .str=>"str" | .non=>"NoneType" | .list=>"list" | .tuple=>"tuple" | .dict=>"dict"
noncomputable def Kd.isa:Kd->Kd->Bool
 |.int,.int=>true | .bool,.int=>true | .bool,.bool=>true | .str,.str=>true | .list,.list=>true | .tuple,.tuple=>true | .dict,.dict=>true | _,_=>false
def KindV(K:FG)(H:Hp):V->Kd->Prop
 |.int _,k=>k=.int
 |.bl _,k=>k=.bool
 |.str _,k=>k=.str
 |.non,k=>k=.non
 |.ref a,k=>(k=.list/\∃xs,SqL K H a xs)∨(k=.tuple/\∃xs,SqT K H a xs)∨(k=.dict/\∃kvs,H a=some (.dK kvs))
 |_,_=>False
theorem oh{X:Cx}:iy X (.builtin "isinstance") (λxs H Q=>∃(v:V) (n k:Kd),xs=[v,.ty n.nm]/\n.nm≠"NoneType"/\KindV X.K H v k/\Q (.bl (Kd.isa k n)) H):=by
 refine⟨λpins s σ H xs us Q I r h=>?_⟩;obtain⟨v,n,k,rfl,hn,hk,q⟩:=h;obtain⟨u,w',rfl,r1,r2⟩:=m7 r;cases r2;have eY:∀tk,EP X pins σ Q (.bool (Kd.isa k n)) {s with toks:=tk}:=λtk=>⟨.bl _,H,I.tok _,rfl,q⟩;have fin0:EP X pins σ Q (.bool (Kd.isa k n)) s:=⟨.bl _,H,I,rfl,q⟩;cases v with
 |int i=>
  obtain⟨t,rfl⟩:=r1;cases (show k=Kd.int from hk);cases n with
  |int=>exact PySem.IsiPair.int_int fin0
  |bool=>exact PySem.IsiPair.int_bool (eY _)
  |str=>exact PySem.IsiPair.int_str (eY _)
  |list=>exact PySem.IsiPair.int_list (eY _)
  |tuple=>exact PySem.IsiPair.int_tuple (eY _)
  |dict=>exact PySem.IsiPair.int_dict (eY _)
  |non=>exact absurd rfl hn
 |bl b=>
  cases r1;cases (show k=Kd.bool from hk);cases n with
  |int=>exact PySem.IsiPair.bool_int fin0
  |bool=>exact PySem.IsiPair.bool_bool fin0
  |str=>exact PySem.IsiPair.bool_str (eY _)
  |list=>exact PySem.IsiPair.bool_list (eY _)
  |tuple=>exact PySem.IsiPair.bool_tuple (eY _)
  |dict=>exact PySem.IsiPair.bool_dict (eY _)
  |non=>exact absurd rfl hn
 |str x=>
  obtain⟨t,rfl⟩:=r1;cases (show k=Kd.str from hk);cases n with
  |int=>exact PySem.IsiPair.str_int (eY _)
  |bool=>exact PySem.IsiPair.str_bool (eY _)
  |str=>exact PySem.IsiPair.str_str fin0
  |list=>exact PySem.IsiPair.str_list (eY _)
  |tuple=>exact PySem.IsiPair.str_tuple (eY _)
  |dict=>exact PySem.IsiPair.str_dict (eY _)
  |non=>exact absurd rfl hn
 |non=>
  cases r1;cases (show k=Kd.non from hk);cases n with
  |int=>exact PySem.IsiPair.NoneType_int (eY _)
  |bool=>exact PySem.IsiPair.NoneType_bool (eY _)
  |str=>exact PySem.IsiPair.NoneType_str (eY _)
  |list=>exact PySem.IsiPair.NoneType_list (eY _)
  |tuple=>exact PySem.IsiPair.NoneType_tuple (eY _)
  |dict=>exact PySem.IsiPair.NoneType_dict (eY _)
  |non=>exact absurd rfl hn
 |ref a=>
  cases r1;rcases hk with ⟨rfl,ys,hq⟩ | ⟨rfl,ys,hq⟩ | ⟨rfl,kvs,hq⟩
  ·obtain⟨its,rv,pl,_⟩:=I.list hq;obtain⟨o,ho,hc,_⟩:=pl.isList;cases n with
   |int=>exact PySem.IsiPair.list_int ho hc (eY _)
   |bool=>exact PySem.IsiPair.list_bool ho hc (eY _)
   |str=>exact PySem.IsiPair.list_str ho hc (eY _)
   |list=>exact PySem.IsiPair.list_list ho hc fin0
   |tuple=>exact PySem.IsiPair.list_tuple ho hc (eY _)
   |dict=>exact PySem.IsiPair.list_dict ho hc (eY _)
   |non=>exact absurd rfl hn
  ·obtain⟨its,rv,⟨o,ho,hc,_⟩,_⟩:=I.tuple hq;cases n with
   |int=>exact PySem.IsiPair.tuple_int ho hc (eY _)
   |bool=>exact PySem.IsiPair.tuple_bool ho hc (eY _)
   |str=>exact PySem.IsiPair.tuple_str ho hc (eY _)
   |list=>exact PySem.IsiPair.tuple_list ho hc (eY _)
   |tuple=>exact PySem.IsiPair.tuple_tuple ho hc fin0
   |dict=>exact PySem.IsiPair.tuple_dict ho hc (eY _)
   |non=>exact absurd rfl hn
  ·obtain⟨_,_,_,_,o,_,_,ho,ex,_⟩:=I.hok a _ hq;cases n with
   |int=>exact PySem.IsiPair.dict_int ho ex.1 (eY _)
   |bool=>exact PySem.IsiPair.dict_bool ho ex.1 (eY _)
   |str=>exact PySem.IsiPair.dict_str ho ex.1 (eY _)
   |list=>exact PySem.IsiPair.dict_list ho ex.1 (eY _)
   |tuple=>exact PySem.IsiPair.dict_tuple ho ex.1 (eY _)
   |dict=>exact PySem.IsiPair.dict_dict ho ex.1 fin0
   |non=>exact absurd rfl hn
 |byt b=>exact False.elim hk
 |flt b=>exact False.elim hk
 |ty n=>exact False.elim hk
end L2
namespace L2
open PySem PySem.Spec PyProof.Rows PySem.Builtin PySem.Builtin.Str
noncomputable abbrev Tx(l:List Nat):Str:=⟨l.toArray⟩
theorem Tx_inj{a b:List Nat}:Tx a=Tx b↔a=b:=⟨λh=>by
 have:(Tx a).cps.toList=(Tx b).cps.toList:=by rw[h]
 simpa using this,λh=>by rw[h]⟩
theorem Et(x:Str):Tx x.cps.toList=x:=by cases x;simp
theorem i6(a:List Nat):(Tx a).length=a.length:=by simp[Str.length]
noncomputable def qa(x:Str):It:=⟨λi _=>i<x.cps.size,λi H v H'=>H'=H/\∃c,x.cps[i]? =some c/\v=.str ⟨#[c]⟩,λi _=>i=x.cps.size⟩
theorem azO{P:Program}{w:World}{K:FG}{tg:Expr}(x:Str)(t:Tok)(it:Addr):jk P w K tg (qa x) [it] it (λi h=>h.IsStrIter it "str_ascii_iterator" x t i) where
 mem:=by simp
 obj:=λi h st b hb=>by
  have e:b=it:=by simpa using hb
  subst e;obtain⟨o,e,c,d⟩:=st;exact⟨o,e,λv z=>by rw[d] at z;cases z⟩
 keep:=λi h h' st k=>by
  obtain⟨o,e,r⟩:=st;exact⟨o,k it (by simp) o e,r⟩
 item:=by
  intro X hP hw hK hc i pins s σ H E I hf st hg;subst hP hw hK;obtain⟨f0,f1,f2,f3,f4,f5⟩:=hf it (by simp);have hg:i<x.cps.size:=hg;refine wpAny_pyNext_ascii_item st (c:=x.cps[i]) (by simp[hg]) λh' st' sb=>?_;have I1:Inv X pins σ H {s with heap:=h',toks:=s.toks+1}:=I.turned (λb o hb e=>sb.extBut b o hb e) f0 f1 f3 f4 f5;obtain⟨o,e,c,d⟩:=id st';exact⟨(),p6 (s:={s with heap:=h',toks:=s.toks+1}) e c d (by decide) ⟨.str ⟨#[x.cps[i]]⟩,H,I1,⟨()⟩,⟨rfl,x.cps[i],by simp[hg],rfl⟩,st',λb hb=>(hf b hb).1⟩⟩
 done:=by
  intro X hP hw hK hc i pins s σ H E I hf st hg;subst hP hw hK;obtain⟨f0,f1,f2,f3,f4,f5⟩:=hf it (by simp);have hg:i=x.cps.size:=hg;exact wpAny_pyNext_ascii_end (I.ok.hd hc) st (by simp[hg]) λh' eb=>⟨rfl,I.turned (t':=s.toks) (λb o hb e=>eb b o hb e) f0 f1 f3 f4 f5⟩
 self:=λ_ _ _ _ _ st h=>wpAny_pyIter_striter_ascii st h
theorem Ww{P:Program}{w:World}{K:FG}{tg:Expr}(x:Str)(t:Tok)(it:Addr):jk P w K tg (qa x) [it] it (λi h=>h.IsStrIter it "str_iterator" x t i) where
 mem:=by simp
 obj:=λi h st b hb=>by
  have e:b=it:=by simpa using hb
  subst e;obtain⟨o,e,c,d⟩:=st;exact⟨o,e,λv z=>by rw[d] at z;cases z⟩
 keep:=λi h h' st k=>by
  obtain⟨o,e,r⟩:=st;exact⟨o,k it (by simp) o e,r⟩
 item:=by
  intro X hP hw hK hc i pins s σ H E I hf st hg;subst hP hw hK;obtain⟨f0,f1,f2,f3,f4,f5⟩:=hf it (by simp);have hg:i<x.cps.size:=hg;refine wpAny_pyNext_wide_item st (c:=x.cps[i]) (by simp[hg]) λh' st' sb=>?_;have I1:Inv X pins σ H {s with heap:=h',toks:=s.toks+1}:=I.turned (λb o hb e=>sb.extBut b o hb e) f0 f1 f3 f4 f5;obtain⟨o,e,c,d⟩:=id st';exact⟨(),p6 (s:={s with heap:=h',toks:=s.toks+1}) e c d (by decide) ⟨.str ⟨#[x.cps[i]]⟩,H,I1,⟨()⟩,⟨rfl,x.cps[i],by simp[hg],rfl⟩,st',λb hb=>(hf b hb).1⟩⟩
 done:=by
  intro X hP hw hK hc i pins s σ H E I hf st hg;subst hP hw hK;obtain⟨f0,f1,f2,f3,f4,f5⟩:=hf it (by simp);have hg:i=x.cps.size:=hg;exact wpAny_pyNext_wide_end (I.ok.hd hc) st (by simp[hg]) λh' eb=>⟨rfl,I.turned (t':=s.toks) (λb o hb e=>eb b o hb e) f0 f1 f3 f4 f5⟩
 self:=λ_ _ _ _ _ st h=>wpAny_pyIter_striter_wide st h
section
variable{X:Cx}{tg:Expr}
def xV(tl:TE):TI:=λσ H R=>tl σ H λx H1=>∃z,x=.str z/\R (qa z) H1
theorem iX{l:Expr}{tl:TE}(hl:E X l tl):Il X tg l (xV tl):=by
 refine⟨λpins s σ H R I h=>?_⟩;refine eT (hl.h pins s σ H _ I h) λu s1 ⟨x,H1,I1,r1,q1⟩=>?_;obtain⟨z,rfl,q⟩:=q1;obtain⟨t,rfl⟩:=r1;have fp:∀b∈[s1.heap.objs.size],jM X pins H1 b:=λb hb=>by
  have e:b=s1.heap.objs.size:=by simpa using hb
  subst e;exact I1.fpOk (aX _) (I1.hok.fresh (aX _))
 cases ha:z.cps.all (·<128)
 ·exact wpAny_pyIter_wide ha ⟨s1.heap.objs.size,[s1.heap.objs.size],_,_,H1,rfl,I1.kept (t':=s1.toks) λb o e=>bD _ e,Ww z t _,⟨_,bO _ rfl,rfl,rfl⟩,fp,q⟩
 ·exact wpAny_pyIter_ascii ha ⟨s1.heap.objs.size,[s1.heap.objs.size],_,_,H1,rfl,I1.kept (t':=s1.toks) λb o e=>bD _ e,azO z t _,⟨_,bO _ rfl,rfl,rfl⟩,fp,q⟩
variable{js:List Nat}{σ:St}{tt:TT}{te:TE}{Q:VK}{H1:Hp}
theorem Ny{xs:List Nat}(R:Nat->List V->Prop)(hn:xs.length<=sizeLine)(h0:R 0 [])
  (hs:∀(i:Nat) (c:Nat) (l:List V) (D:Addr) (H2:Hp) (E:V->Hp->Prop) (F:Hp->Prop),xs[i]? =some c->R i l->H1 D=none->Same H1 H2->H2 D=some (.lst l)->(∀y H5,Same H2 H5->R (i+1) (l++[y])->E y H5)->(∀H4,Same H2 H4->R (i+1) l->F H4)->
   tt (some (.str (Tx [c]))::gZ js σ) H2 λb H4=>if b=true then te (some (.str (Tx [c]))::gZ js σ) H4 E else F H4)
  (hd:∀(D:Addr) (H2:Hp) (l:List V),R xs.length l->H1 D=none->Same H1 H2->H2 D=some (.lst l)->Q (.ref D) H2):kN (qa (Tx xs)) js σ tt te Q H1:=by
 intro D hD;have hz:(Tx xs).cps.size=xs.length:=by simp
 refine⟨λi m H2=>m=xs.length-i/\i<=xs.length/\Same H1 H2/\∃l,H2 D=some (.lst l)/\l.length<=i/\R i l,⟨xs.length,by simp,bK _,eE hD _,[],dY,aX _,h0⟩,?_⟩;rintro i m H2 ⟨rfl,hi,s2,l,h2,hll,hR⟩;by_cases hlt:i<xs.length
 ·refine .inr ⟨show i<(Tx xs).cps.size by rw[hz];exact hlt,λv H3 y=>?_⟩;obtain⟨e,c,ec,ev⟩:=y;subst e ev;refine hs i c l D _ _ _ (by simpa using ec) hR hD s2 h2 (λz H5 s5 r5=>?_) (λH4 s4 r4=>?_)
  ·refine⟨l,s5 _ _ h2,cH hll (bC hlt hn),xs.length-(i+1),⋯,rfl,hlt,λb o hb=>?_,l++[z],dY,by rw[aZ,b7];omega,r5⟩;rw[eQ (gR hb hD)];exact s5 _ _ (s2 _ _ hb)
  ·exact⟨xs.length-(i+1),⋯,rfl,hlt,s2.trans s4,l,s4 _ _ h2,⋯,r4⟩
 ·have e:i=xs.length:=⋯;subst e;exact .inl ⟨show xs.length=(Tx xs).cps.size by rw[hz],hd D H2 l hR hD s2 h2⟩
end
section
variable{X:Cx}
theorem EU{prog:Program}{w:World}{A:Around}{its:Array Value}{bs:List Bool}(r:Vals (bs.map V.bl) its.toList):TruthOf prog w A (λi v=>its[i]? =some v) (λi=>bs.getD i false):=by
 intro i v s Q E hv hq;have hv':its.toList[i]? =some v:=by rw[Array.getElem?_toList];exact hv
 have hi:i<bs.length:=by
  have h1:=r.length;rw[aY] at h1;rcases Nat.lt_or_ge i its.toList.length with z | z
  ·omega
  ·rw[List.getElem?_eq_none z] at hv';cases hv'
 obtain⟨u,hu,ru⟩:=r.get (i:=i) (x:=V.bl bs[i]) (by rw[bN,cC hi];rfl);rw[hv'] at hu;cases hu;cases ru;have e:bs.getD i false=bs[i]:=by simp[List.getD,cC hi]
 have hq:Q (bs.getD i false) s:=hq;rw[e] at hq;exact dU hq
theorem ay4(bs:List Bool):(List.range bs.length).all (λi=>bs.getD i false)=bs.all id:=by
 rw[cL,cA,cA];refine⟨λh b hb=>?_,λh i hi=>?_⟩
 ·obtain⟨i,hi,e⟩:=List.getElem_of_mem hb;have:=h i (cJ.mpr hi);rw[show bs.getD i false=bs[i] by simp[List.getD,cC hi],e] at this;exact this
 ·have hi:=cJ.mp hi;rw[show bs.getD i false=bs[i] by simp[List.getD,cC hi]];exact h _ (List.getElem_mem hi)
theorem Vc(bs:List Bool):(List.range bs.length).any (λi=>bs.getD i false)=bs.any id:=by
 rw[cL,List.any_eq_true,List.any_eq_true];refine⟨λ⟨i,hi,h⟩=>?_,λ⟨b,hb,h⟩=>?_⟩
 ·have hi:=cJ.mp hi;rw[show bs.getD i false=bs[i] by simp[List.getD,cC hi]] at h;exact⟨_,List.getElem_mem hi,h⟩
 ·obtain⟨i,hi,e⟩:=List.getElem_of_mem hb;refine⟨i,cJ.mpr hi,?_⟩;rw[show bs.getD i false=bs[i] by simp[List.getD,cC hi],e];exact h
theorem tD(hc:X.calm=true:=by rfl):iy X (.builtin "all") (λxs H Q=>∃(p:Addr) (bs:List Bool),xs=[.ref p]/\SqL X.K H p (bs.map V.bl)/\Q (.bl (bs.all id)) H):=by
 refine⟨λpins s σ H xs us Q I r h=>?_⟩;obtain⟨p,bs,rfl,hq,q⟩:=h;obtain⟨u,rfl,r1⟩:=jh r;cases r1;obtain⟨its,rv,pl,hz⟩:=I.list hq;have hne:p≠s.heap.objs.size:=by
  obtain⟨o,ho,_⟩:=pl.isList;exact bE (a9 ho)
 refine call_all_walk (wpAny_pyIter_list pl.isList ⟨s.heap.objs.size,[s.heap.objs.size,p],[s.heap.objs.size],its.toArray.size,(λi v=>its.toArray[i]? =some v),(λi h=>h.IsListIter s.heap.objs.size p i/\h.IsList p its.toArray),(λi=>bs.getD i false),rfl,Walks.list (prog:=X.prog) (w:=X.w) (A:=X.A.in1) (I.ok.hd hc) _ p hne its.toArray,⟨⟨_,bO _ rfl,rfl,rfl⟩,pl.isList.push _⟩,EU (by simpa using rv),λh' tk hk=>?_⟩)
 have hl:=rv.length;rw[aY] at hl;have e:its.toArray.size=bs.length:=by rw[bJ];omega
 rw[e,ay4];exact⟨.bl _,H,I.kept λb o eb=>hk b o (by simpa using bE (a9 eb)) (bD _ eb),rfl,q⟩
theorem Dr(hc:X.calm=true:=by rfl):iy X (.builtin "any") (λxs H Q=>∃(p:Addr) (bs:List Bool),xs=[.ref p]/\SqL X.K H p (bs.map V.bl)/\Q (.bl (bs.any id)) H):=by
 refine⟨λpins s σ H xs us Q I r h=>?_⟩;obtain⟨p,bs,rfl,hq,q⟩:=h;obtain⟨u,rfl,r1⟩:=jh r;cases r1;obtain⟨its,rv,pl,hz⟩:=I.list hq;have hne:p≠s.heap.objs.size:=by
  obtain⟨o,ho,_⟩:=pl.isList;exact bE (a9 ho)
 refine call_any_walk (wpAny_pyIter_list pl.isList ⟨s.heap.objs.size,[s.heap.objs.size,p],[s.heap.objs.size],its.toArray.size,(λi v=>its.toArray[i]? =some v),(λi h=>h.IsListIter s.heap.objs.size p i/\h.IsList p its.toArray),(λi=>bs.getD i false),rfl,Walks.list (prog:=X.prog) (w:=X.w) (A:=X.A.in1) (I.ok.hd hc) _ p hne its.toArray,⟨⟨_,bO _ rfl,rfl,rfl⟩,pl.isList.push _⟩,EU (by simpa using rv),λh' tk hk=>?_⟩)
 have hl:=rv.length;rw[aY] at hl;have e:its.toArray.size=bs.length:=by rw[bJ];omega
 rw[e,Vc];exact⟨.bl _,H,I.kept λb o eb=>hk b o (by simpa using bE (a9 eb)) (bD _ eb),rfl,q⟩
end
end L2
namespace L2
open PySem PySem.Spec PyProof.Rows PySem.Builtin PySem.Builtin.Str
noncomputable def eU(c:Nat):List Nat->List (List Nat)
 |[]=>[[]]
 |x::r=>if x=c then []::eU c r else match eU c r with
  |h::t=>(x::h)::t
  |[]=>[[x]]
noncomputable def gT(c:Nat):List (List Nat)->List Nat
 |[]=>[]
 |[p]=>p
 |p::r=>p++c::gT c r
theorem aH6(c:Nat):∀l,eU c l≠[]
 |[]=>by simp[eU]
 |x::r=>by
  unfold eU;split
  ·simp
  ·split<;>simp
theorem nN(c:Nat):∀(p:List Nat),c∉p->eU c p=[p]
 |[],_=>rfl
 |x::r,h=>by
  have h1:¬x=c:=λe=>h (by simp[e]);have h2:=nN c r λe=>h (by simp[e]);unfold eU;rw[if_neg h1,h2]
theorem qR(c:Nat):∀(p r:List Nat),c∉p->eU c (p++c::r)=p::eU c r
 |[],r,_=>by
  show eU c (c::r)=_;unfold eU;rw[if_pos rfl];cases r<;>rfl
 |x::q,r,h=>by
  have h1:¬x=c:=λe=>h (by simp[e]);have h2:=qR c q r λe=>h (by simp[e]);show eU c (x::(q++c::r))=_;rw[eU,if_neg h1,h2]
theorem p4(c:Nat):∀(ps:List (List Nat)),ps≠[]->(∀p∈ps,c∉p)->eU c (gT c ps)=ps
 |[],h,_=>absurd rfl h
 |[p],_,h=>nN c p (h p (by simp))
 |p::q::r,_,h=>by
  show eU c (p++c::gT c (q::r))=_;rw[qR c p _ (h p (by simp)),p4 c (q::r) (by simp) λz hz=>h z (bP _ hz)]
theorem vN(c:Nat):∀ps:List Str,(Str.join (Tx [c]) ps).cps.toList=gT c (ps.map (·.cps.toList))
 |[]=>rfl
 |[p]=>rfl
 |p::q::r=>by
  have ih:=vN c (q::r);show (p++Tx [c]++Str.join (Tx [c]) (q::r)).cps.toList=p.cps.toList++c::gT c ((q::r).map (·.cps.toList));rw[←ih];show ((p.cps++ #[c])++(Str.join (Tx [c]) (q::r)).cps).toList=_;simp
theorem Ln(x y:Str)(h:Txt.split x y=[]):False:=by
 unfold Txt.split at h;split at h
 ·cases h
 ·split at h
  ·cases h
  ·have e:=congrArg List.length h;rw[length_partsBetween] at e;simp at e
theorem aA8(l:List Nat)(c:Nat):(Txt.split (Tx l) (Tx [c])).map (·.cps.toList)=eU c l:=by
 have h1:=StrLaws.join_split (Tx l) (Tx [c]);have h2:=StrLaws.split_free (Tx l) c;have h3:=vN c (Txt.split (Tx l) (Tx [c]));rw[h1] at h3;have e:gT c ((Txt.split (Tx l) (Tx [c])).map (·.cps.toList))=l:=by rw[←h3]
 rw[←p4 c ((Txt.split (Tx l) (Tx [c])).map (·.cps.toList)) (λz=>Ln _ _ (List.map_eq_nil_iff.mp z)) ?_,e];intro p hp;obtain⟨z,hz,rfl⟩:=bI.mp hp;exact h2 z hz
theorem Oq(l:List Nat)(c:Nat):Txt.split (Tx l) (Tx [c])=(eU c l).map Tx:=by
 rw[←aA8,cM];have:∀ps:List Str,ps=ps.map ((λw:List Nat=>Tx w) ∘ λx=>x.cps.toList):=λps=>by
  induction ps with
  |nil=>rfl
  |cons a r ih=>rw[bM,←ih];simp
 exact this _
theorem GJ:∀l:List (Str×Tok),Vals (l.map λp=>V.str p.1) (strValues l)
 |[]=>.nil
 |p::r=>.cons ⟨p.2,rfl⟩ (GJ r)
section
variable{prog:Program}{w:World}{A:Around}{E:Value->Shared->Prop}{s:Shared}{x y:Str}{t u:Tok}{Q:Value->Shared->Prop}
theorem MA(hy:(y.length==0)=false)(hsz:x.length+2<=sizeLine)
  (h:∀l k,l.map (·.1)=Txt.split x y->Q (.ref s.heap.objs.size) {s with heap:=s.heap.push {cls:=.type "list",data:=.seq (strValues l).toArray},toks:=k}):
  wpAny (model prog w) A (call (.builtin "str.split") [.str x t,.str y u]) Q E s:=by
 have hn:(partsBetween x (occurrences x y 0 x.length (x.length+1)) y.length).length<=sizeLine:=by
  have e1:=StrLaws.occ_length_le x y 0 x.length (x.length+1);rw[length_partsBetween];omega
 cases h1:(decide (x.length<y.length)||decide (strKind x<strKind y))
 ·cases hf:(occurrences x y 0 x.length (x.length+1)).isEmpty
  ·refine call_meets F.slot_str_split (typeIs_str _ _ _) F.entry_str_split (F.args_str_split_2 _ _) (meets_str_split_sep x y t u h1 hy hf ⋯ hn) ?_;show wants Q E _ {s with toks:=_,heap:=s.heap.push {cls:=.type "list",data:=.seq (strsFrom s.toks (partsBetween x (occurrences x y 0 x.length (x.length+1)) y.length)).toArray} };rw[strsFrom_eq];exact h (numbered s.toks _) _ ((numbered_texts _ _).trans ((if_neg (ne_true_of_eq_false h1)).trans (if_neg (ne_true_of_eq_false hf))).symm)
  ·exact call_meets F.slot_str_split (typeIs_str _ _ _) F.entry_str_split (F.args_str_split_2 _ _) (meets_str_split_not_found x y t u h1 hy hf)
    (h [(x,t)] s.toks ((if_neg (ne_true_of_eq_false h1)).trans (if_pos hf)).symm)
 ·exact call_meets F.slot_str_split (typeIs_str _ _ _) F.entry_str_split (F.args_str_split_2 _ _) (meets_str_split_cannot_occur x y t u h1)
   (h [(x,t)] s.toks (if_pos h1).symm)
end
theorem pO(c:Nat):∀l,(eU c l).length<=l.length+1
 |[]=>by simp[eU]
 |x::r=>by
  have ih:=pO c r;unfold eU;split
  ·simp;omega
  ·split
   ·rename_i e;rw[e] at ih;simp at ih ⊢;omega
   ·simp
section
variable{X:Cx}
def EO:V->List V->Hp->VK->Prop:=λx vs H Q=>∃(l:List Nat) (c:Nat),x=.str (Tx l)/\vs=[.str (Tx [c])]/\l.length+2<=sizeLine/\∀p,H p=none->Q (.ref p) (upd H p (.lst ((eU c l).map λq=>V.str (Tx q))))
theorem Rv:mX X "str.split" EO:=by
 intro pins s σ H x xs v us Q I rx rv h;obtain⟨l,c,rfl,rfl,hz,q⟩:=h;obtain⟨u,rfl,t',rfl⟩:=jh rv;obtain⟨t,rfl⟩:=rx;refine MA (by rfl) (by rw[i6];exact hz) λps k e=>?_;have e2:ps.map (λp=>V.str p.1)=(eU c l).map λq=>V.str (Tx q):=by
  have:=congrArg (List.map V.str) e;rw[Oq,cM,cM] at this;exact this
 have hl:((eU c l).map λq=>V.str (Tx q)).length<=sizeLine:=by
  have:=pO c l;rw[aY];omega
 refine⟨.ref s.heap.objs.size,upd H s.heap.objs.size (.lst ((eU c l).map λq=>V.str (Tx q))),I.laid (t':=k) (λb u e=>bD _ e) (aX _) ?_,rfl,q _ (I.hok.fresh (aX _))⟩;exact⟨hl,strValues ps,0,by rw[←e2];exact GJ ps,bO _ rfl⟩
theorem ny{o e:Expr}{to te:TE}{apos cpos:Pos}(ho:E X o to)(he:E X e te)(hbase:attributeBase o "split" X.env (eval o X.env)=eval o X.env:=by rfl)
  (hfew:((backTo cpos (starEach [e] X.env)).all (λx=> !x.1)&&(backToKw cpos (keywordEach [] X.env)).all (λx=>x.1.isSome)&&decide (([e]:List Expr).length+([]:List Keyword).length+(if ([]:List Keyword).isEmpty then 0 else 1)<30))=true:=by rfl)
  (hline:(apos.endLine==cpos.line)=true:=by rfl) (hs:starEach [e] X.env=(false,eval e X.env)::starEach [] X.env:=by rfl) (hplain:(backTo cpos (starEach [] X.env)).any (·.1)=false:=by rfl):
  E X (.Call (.Attribute o "split" apos) [e] [] cpos) (nB X.K "str" EO to (ju te jt)):=
 ⟨oU PySem.F.plainAttrs_str PySem.F.slot_str_split PySem.F.type_str_split Rv ho.h (mj he.h mn hs) hbase hfew hline hs hplain⟩
theorem C0:gE X (compareOp .In) (λx y H Q=>∃(c:Nat) (l:List Nat),x=.str (Tx [c])/\y=.str (Tx l)/\Q (.bl (decide (c∈l))) H):=by
 refine⟨λpins s σ H x y v u Q I rx ry h=>?_⟩;obtain⟨c,l,rfl,rfl,q⟩:=h;refine azC pins s σ H _ _ v u Q I rx ry ⟨(()),?_⟩;rw[show (!(occurrences (Tx l) (Tx [c]) 0 (Tx l).length 1).isEmpty)=decide (c∈(Tx l).cps.toList) from StrLaws.found_one (Tx l) c];exact q
theorem yd:iy X (.builtin "len") (λxs H Q=>∃l:List Nat,xs=[.str (Tx l)]/\l.length<=sizeLine/\Q (.int l.length) H):=by
 refine⟨λpins s σ H xs us Q I r h=>?_⟩;obtain⟨l,rfl,hz,q⟩:=h;refine Se pins s σ H _ us Q I r ⟨Tx l,rfl,by rw[i6];exact hz,?_⟩;rw[i6];exact q
theorem jr:gE X (binaryOp .Add) (λx y H Q=>∃a b:List Nat,x=.str (Tx a)/\y=.str (Tx b)/\a.length+b.length<=sizeLine/\Q (.str (Tx (a++b))) H):=by
 refine⟨λpins s σ H x y v u Q I rx ry h=>?_⟩;obtain⟨a,b,rfl,rfl,hz,q⟩:=h;refine OK pins s σ H _ _ v u Q I rx ry ⟨(()),by rw[i6,i6];exact hz,?_⟩;have e:Tx a++Tx b=Tx (a++b):=by show Str.mk _=Str.mk _;simp
 rw[e];exact q
theorem xX:n8 X (λx y H Q=>∃(l:List Nat) (i:Int) (c:Nat),x=.str (Tx l)/\y=.int i/\l.length<=sizeLine/\iF l i=some c/\Q (.str (Tx [c])) H):=by
 refine⟨λvalue slice pins s σ H x y v u Q I rx ry h hs=>?_⟩;obtain⟨l,i,c,rfl,rfl,hz,ha,q⟩:=h;exact WX value slice pins s σ H _ _ v u Q I rx ry ⟨Tx l,i,c,rfl,rfl,by rw[i6];exact hz,by simpa using ha,q⟩ hs
end
end L2
namespace L2
open PySem PySem.Spec PyProof.Rows PySem.Builtin PySem.Builtin.Str
section
variable{X:Cx}{pins:List (Addr×Obj)}{σ:St}{H:Hp}{s:Shared}{h':Heap}
theorem Inv.turnT{ch:List Addr}{T:Addr}{o:HO}{t':Nat}(I:Inv X pins σ H s)(k:∀b u,b∉ch->s.heap.get? b=some u->h'.get? b=some u)(hch:∀b∈ch,jM X pins H b)(hT:s.heap.objs.size<=T)(new:ObjOk X.prog X.w (upd H T o) h' T o):
  Inv X pins σ (upd H T o) {s with heap:=h',toks:=t'}:=by
 have hn:=I.hok.fresh hT;have nit:∀b u,H b=some u->b∉ch:=λb u e z=>by rw[(hch b z).1] at e;cases e
 refine I.step (g':=s.gens) (d':=s.drawn) (ch:=ch) (λb hb=>?_) (λb u _ _ hc e _=>k b u hc e) (λb u _ _ hc e _=>⟨u.slots,k b u hc e⟩) (λb u _ e n=>?_)
  (λb u hc e=>⟨u,k b u hc e⟩) (λb xs e=>by rw[eQ (gR e hn)];exact e) (λb u xs e=>by rw[eQ (gR e hn)];exact e) (λb ps e=>⟨#[],by rw[eQ (gR e hn),e];simp⟩) (λm hm=>?_) (λb u e=>?_) I.bare
 ·obtain⟨f0,f1,f2,f3,f4,f5⟩:=hch b hb;exact⟨f3,f1,f4,f5⟩
 ·rw[eQ (bE (bC (a9 e) hT))];exact n
 ·obtain⟨ob,es,ep,ho,r⟩:=hm;exact⟨ob,es,ep,k _ ob (λz=>(hch _ z).2.1 rfl) ho,r⟩
 ·by_cases hb:b=T
  ·subst hb;rw[dY] at e;cases e;exact new
  ·rw[eQ hb] at e;refine (I.hok b u e).stay (λc v hc q=>k c v ?_ q) (λc q=>by rw[eQ (gR q hn)];exact q) λc xs q=>by rw[eQ (gR q hn)];exact q
   rcases hc with z | z
   ·rw[z];exact nit b u e
   ·exact nit c _ z
theorem Inv.turnN{ch:List Addr}{t':Nat}(I:Inv X pins σ H s)(k:∀b u,b∉ch->s.heap.get? b=some u->h'.get? b=some u)(hch:∀b∈ch,jM X pins H b):Inv X pins σ H {s with heap:=h',toks:=t'}:=by
 have nit:∀b u,H b=some u->b∉ch:=λb u e z=>by rw[(hch b z).1] at e;cases e
 refine I.step (g':=s.gens) (d':=s.drawn) (ch:=ch) (λb hb=>?_) (λb u _ _ hc e _=>k b u hc e) (λb u _ _ hc e _=>⟨u.slots,k b u hc e⟩) (λb u _ e n=>n)
  (λb u hc e=>⟨u,k b u hc e⟩) (λb xs e=>e) (λb u xs e=>e) (λb ps e=>⟨#[],by rw[e];simp⟩) (λm hm=>?_) (λb u e=>?_) I.bare
 ·obtain⟨f0,f1,f2,f3,f4,f5⟩:=hch b hb;exact⟨f3,f1,f4,f5⟩
 ·obtain⟨ob,es,ep,ho,r⟩:=hm;exact⟨ob,es,ep,k _ ob (λz=>(hch _ z).2.1 rfl) ho,r⟩
 ·refine (I.hok b u e).stay (λc v hc q=>k c v ?_ q) (λc q=>q) λc xs q=>q;rcases hc with z | z
  ·rw[z];exact nit b u e
  ·exact nit c _ z
end
noncomputable def m6(K:FG)(a:Addr):It:=
 ⟨λi H=>∃xs x,SqL K H a xs/\xs[i]? =some x,λi H v H'=>∃T,v=.ref T/\H T=none/\∀xs,SqL K H a xs->∃x,xs[i]? =some x/\H'=upd H T (.tup [.int i,x]),λi H=>∃xs,SqL K H a xs/\xs.length=i⟩
theorem YF{P:Program}{w:World}{K:FG}{es:List Expr}{kk:Nat}{pos:Pos}(a e it:Addr)(hne:e≠it):jk P w K (.Tuple es kk pos) (m6 K a) [e,it] e (λi h=>(∃old,IsEnum h e it i old)/\h.IsListIter it a i) where
 mem:=by simp
 obj:=λi h st b hb=>by
  obtain⟨⟨old,he⟩,o,e1,c,d⟩:=st;rcases bA.mp hb with z | z
  ·subst z;exact⟨_,he,λv q=>by
    have q':Data.fields _=Data.cell v:=q;cases q'⟩
  ·have z:b=it:=by simpa using z
   subst z;exact⟨o,e1,λv q=>by rw[d] at q;cases q⟩
 keep:=λi h h' st k=>by
  obtain⟨⟨old,he⟩,hit⟩:=st;exact⟨⟨old,k e (by simp) _ he⟩,hit.at λo q=>k it (by simp) o q⟩
 item:=by
  intro X hP hw hK hc i pins s σ H E I hf st hg;subst hP hw hK;obtain⟨xs,x,hq,hx⟩:=hg;obtain⟨⟨old,he⟩,hit⟩:=st;obtain⟨its,rv,p,hz⟩:=I.list hq;obtain⟨u,hu,ru⟩:=rv.get hx;refine wpAny_pyNext_enum_item he hit p.isList (x:=u) (by simpa using hu) hne λh1 ho hit1 hT hsz hk=>?_;refine⟨(),wpAny_letOwnedTupleGo_enum ho λh2 he2 sb=>?_⟩;have ele:e<s.heap.objs.size:=a9 he;have k2:∀b ob,b∉[e,it]->s.heap.get? b=some ob->h2.get? b=some ob:=λb ob hb q=>by
   have n1:b≠e:=λz=>hb (by simp[z]);have n2:b≠it:=λz=>hb (by simp[z]);exact (sb.2 b n1).trans (hk b ob n1 n2 q)
  have hTn:s.heap.objs.size≠e:=Nat.ne_of_gt ele;have hT2:h2.get? s.heap.objs.size=some {cls:=.type "tuple",data:=.seq #[.int i s.toks,u]}:=(sb.2 _ hTn).trans hT;have hn:=I.hok.fresh (aX s.heap.objs.size);have I2:Inv X pins σ (upd H s.heap.objs.size (.tup [.int i,x])) {s with heap:=h2,toks:=s.toks+1}:=I.turnT k2 hf (aX _) ⟨by show 2<=sizeLine;decide,[.int i s.toks,u],.cons ⟨()⟩ (.cons ru .nil),⟨_,hT2,rfl,()⟩⟩
  refine⟨.ref s.heap.objs.size,_,I2,rfl,⟨s.heap.objs.size,rfl,hn,λys hy=>⟨x,by rw[I.list_inj hy hq];exact hx,rfl⟩⟩,⟨⟨_,by simpa using he2⟩,hit1.at λo q=>(sb.2 it (Ne.symm hne)).trans q⟩,λb hb=>?_⟩;have hblt:b<s.heap.objs.size:=by
   rcases bA.mp hb with z | z
   ·rw[z];exact ele
   ·have z:b=it:=by simpa using z
    obtain⟨o,q,_⟩:=hit;rw[z];exact a9 q
  rw[eQ (bE hblt)];exact (hf b hb).1
 done:=by
  intro X hP hw hK hc i pins s σ H E I hf st hg;subst hP hw hK;obtain⟨xs,hq,hx⟩:=hg;obtain⟨⟨old,he⟩,hit⟩:=st;obtain⟨its,rv,p,hz⟩:=I.list hq;have hl:=rv.length;refine wpAny_pyNext_enum_end (I.ok.hd hc) he hit p.isList (by simp;omega) λh' hk=>⟨rfl,?_⟩;exact I.turnN (ch:=[e,it]) (t':=s.toks) (λb ob hb q=>hk b ob (λz=>hb (by simp[z])) q) hf
 self:=λ_ _ _ _ _ st h=>by
  obtain⟨⟨old,he⟩,_⟩:=st;exact wpAny_pyIter_enum he h
section
variable{X:Cx}{es:List Expr}{kk:Nat}{tpos:Pos}
def wo(K:FG)(tl:TE):TI:=λσ H R=>tl σ H λx H1=>∃a,x=.ref a/\(∃xs,SqL K H1 a xs)/\R (m6 K a) H1
theorem RZ:bootBuiltins "enumerate"=some (.type "enumerate"):=by decide +kernel
theorem iE{l:Expr}{tl:TE}{p pos:Pos}(hm:X.mg "enumerate"=none)(hl:E X l tl)(hg:Gl X "enumerate":=by rfl)(hs:starEach [l] X.env=[(false,eval l X.env)]:=by rfl):
  Il X (.Tuple es kk tpos) (.Call (.Name "enumerate" p) [l] [] pos) (wo X.K tl):=by
 refine⟨λpins s σ H R I h=>?_⟩;have hA:PA X [l] (ju tl jt):=mj hl.h mn hs;refine Call_ (nV I hg hm RZ (PyProof.Rows.callWith_type1 (eT (hA pos pins s σ H (λvs H1=>match vs with | [x]=>∃a,x=.ref a/\(∃xs,SqL X.K H1 a xs)/\R (m6 X.K a) H1 | _=>False) I ?_) λus s1 ⟨vs,H1,I1,r1,q1⟩=>?_) hs rfl))
 ·exact h
 match vs,q1,r1 with
 |[x],q1,r1=>?_
 obtain⟨a,rfl,⟨xs,hq⟩,q⟩:=q1;obtain⟨u,rfl,rx⟩:=jh r1;cases rx;obtain⟨its,rv,pl,hz⟩:=I1.list hq;refine call_enumerate_list pl.isList λh' he hit hsz hk=>?_;refine wpAny_pyIter_enum he ?_;have I2:Inv X pins σ H1 {s1 with heap:=h'}:=I1.kept (t':=s1.toks) hk;have hne:s1.heap.objs.size+1≠s1.heap.objs.size:=Nat.ne_of_gt (Nat.lt_succ_self _);refine⟨s1.heap.objs.size+1,[s1.heap.objs.size+1,s1.heap.objs.size],_,_,H1,rfl,I2,YF a _ _ hne,⟨⟨_,he⟩,hit⟩,λb hb=>?_,q⟩
 have hb2:s1.heap.objs.size<=b:=by
  rcases bA.mp hb with z | z
  ·rw[z];exact Nat.le_succ _
  ·have z:b=s1.heap.objs.size:=by simpa using z
   rw[z];exact aX _
 exact I1.fpOk hb2 (I1.hok.fresh hb2)
end
theorem uy{K:FG}{a:Addr}{xs:List V}{g:TG}{tb:TS}{D:iw}{σ:St}{H:Hp}(Pv:Nat->St->Hp->Prop)(h0:Pv 0 σ H)(hl:∀i σ H,i<=xs.length->Pv i σ H->SqL K H a xs)
  (hs:∀i x σ H T,xs[i]? =some x->Pv i σ H->H T=none->g (.ref T) σ (upd H T (.tup [.int i,x])) λσ2 H2=>tb {D with nx:=Pv (i+1),ct:=Pv (i+1),bk:=D.nx} σ2 H2) (hd:∀σ H,Pv xs.length σ H->D.nx σ H):
  ∃W:Nat->Nat->St->Hp->Prop,(∃m,W 0 m σ H)/\∀i m σ H,W i m σ H->
   ((m6 K a).stop i H/\D.nx σ H)∨((m6 K a).go i H/\∃N:St->Hp->Prop,(∀σ' H',N σ' H'->∃m',m'<m/\W (i+1) m' σ' H')/\∀x H',(m6 K a).yld i H x H'->g x σ H' λσ2 H2=>tb {D with nx:=N,ct:=N,bk:=D.nx} σ2 H2):=by
 refine⟨λi m σ H=>m=xs.length-i/\i<=xs.length/\Pv i σ H,⟨xs.length,by simp,bK _,h0⟩,?_⟩;rintro i m σ H ⟨rfl,hi,p⟩;have hq:=hl i σ H hi p;by_cases hlt:i<xs.length
 ·refine .inr ⟨⟨xs,xs[i],hq,by simp[hlt]⟩,Pv (i+1),λσ' H' p'=>⟨xs.length-(i+1),⋯,rfl,hlt,p'⟩,λx H' y=>?_⟩;obtain⟨T,rfl,hT,hy⟩:=y;obtain⟨x,hx,rfl⟩:=hy xs hq;exact hs i x σ H T hx p hT
 ·have e:i=xs.length:=⋯;subst e;exact .inl ⟨⟨xs,hq,rfl⟩,hd σ H p⟩
noncomputable def num(m:Nat):List Nat:=(Nat.toDigits 10 m).map Char.toNat
section
variable{X:Cx}
theorem X3:iy X (.type "int") (λxs H Q=>∃l:List Nat,xs=[.str (Tx l)]/\PySem.NumText.AllDigits l/\l≠[]/\l.length<=640/\Q (.int ((PySem.NumText.digitsVal l:Nat):Int)) H):=by
 refine⟨λpins s σ H xs us Q I r h=>?_⟩;obtain⟨l,rfl,h1,h2,h3,q⟩:=h;obtain⟨u,rfl,t,rfl⟩:=jh r;refine PySem.W.KIN.call_text (PySem.intText_digits (x:=Tx l) (by simpa using h1) (by simpa using h2) (by rw[i6];omega)) (by rw[i6];exact h3) ?_;exact⟨.int _,H,I.tok _,⟨()⟩,by simpa using q⟩
theorem kr:iy X (.type "str") (λxs H Q=>∃n:Nat,xs=[.int n]/\n<10^500/\Q (.str (Tx (num n))) H):=by
 refine⟨λpins s σ H xs us Q I r h=>?_⟩;obtain⟨n,rfl,hn,q⟩:=h;refine Xn pins s σ H _ us Q I r ⟨(n:Int),rfl,?_,?_⟩
 ·by_cases h0:n=0
  ·subst h0;decide
  ·have:n<2^1900:=bC hn (by decide +kernel);have:=(Nat.log2_lt h0).mpr this;show (n:Int).natAbs.log2<1920;simp only[Int.natAbs_natCast];omega
 ·have e:PySem.Str.ofString (toString (n:Int))=Tx (num n):=by
   rw[←Et (PySem.Str.ofString (toString (n:Int)))];exact congrArg (λz=>Tx z) (PySem.W.KIN.signs_num n)
  show Q (.str (PySem.Str.ofString (toString (n:Int)))) H;rw[e];exact q
end
end L2
namespace L2
open PySem PySem.Spec PyProof.Rows PySem.Builtin PySem.Builtin.Str
theorem km{b:Bool}{A B:Prop}(e:b=true)(h:A):if b=true then A else B:=by rw[if_pos e];exact h
theorem iJ{b:Bool}{A B:Prop}(e:b=false)(h:B):if b=true then A else B:=by rw[if_neg (by rw[e];exact bG)];exact h
theorem G4{b:Bool}{A B:Prop}(h1:b=true->A)(h2:b=false->B):if b=true then A else B:=by
 cases b
 ·exact iJ rfl (h2 rfl)
 ·exact km rfl (h1 rfl)
theorem pK(a b:List Nat):decide (V.str (Tx a)=V.str (Tx b))=decide (a=b):=decide_eq_decide.mpr ⟨λh=>Tx_inj.mp (V.str.inj h),λh=>by rw[h]⟩
section
variable{X:Cx}{pos:Pos}
theorem eV{z:Str}{j}(l:List Nat)(h:z=Tx l:=by decide +kernel):E X (.Constant (.str z) j pos) (tC (.str (Tx l))):=by
 subst h;exact⟨F9⟩
end
noncomputable def kB(c:Nat):Bool:=decide (48<=c)&&decide (c<=57)
noncomputable def qm:List Nat:=[48,49,50,51,52,53,54,55,56,57]
theorem aDM:∀c:Nat,c<58->decide (c∈qm)=kB c:=by decide
theorem Vw(c:Nat):decide (c∈qm)=kB c:=by
 rcases Nat.lt_or_ge c 58 with h | h
 ·exact aDM c h
 ·have n:∀x∈qm,x<58:=by decide
  unfold kB;rw[dP (λz=>absurd (n c z) (Nat.not_lt.mpr h)),dP (show ¬c<=57 from Nat.not_le.mpr h),Bool.and_false]
noncomputable def lR(l:List Nat):Bool:= !decide (l=[])&&l.all kB
noncomputable def iR(l:List Nat):Bool:=lR l&&(decide (l=[48])|| !decide (l.headD 0=48))
noncomputable def dv(l:List Nat):Int:=((PySem.NumText.digitsVal l:Nat):Int)
noncomputable def gJ(lo hi:Int)(l:List Nat):Option Int:=if iR l=true then (if lo<=dv l/\dv l<=hi then some (dv l) else none) else none
noncomputable def oV:Option Int->V
 |none=>.non
 |some n=>.int n
noncomputable def l4(es:List (Option Int)):Option (Int×Int):=match es with
 |[some a]=>some (a,a)
 |[some a,some b]=>if b<a then none else some (a,b)
 |_=>none
noncomputable def iP(lo hi:Int)(l:List Nat):Option (Int×Int):=if l=[42] then some (lo,hi) else l4 ((eU 45 l).map (gJ lo hi))
@[irreducible] noncomputable def iB(a b s:Int):List Int:=(List.range (Builtin.Range.rangeSize a (b+1) s).toNat).map λi:Nat=>a+(i:Int)*s
theorem q9(a b s:Int):iB a b s=(List.range (Builtin.Range.rangeSize a (b+1) s).toNat).map λi:Nat=>a+(i:Int)*s:=by rw[iB]
noncomputable def jC(a b s:Int):Int:=iK (iB a b s)
noncomputable def j3(lo hi:Int)(r s:List Nat):Option Int:=
 match iP lo hi r,gJ 1 99 s with
 |some (a,b),some st=>some (jC a (if iR r=true then hi else b) st)
 |_,_=>none
noncomputable def gH(lo hi:Int)(l:List Nat):Option Int:=
 match eU 47 l with
 |[r,s]=>j3 lo hi r s
 |_=>match iP lo hi l with
  |some (a,b)=>some (jC a b 1)
  |none=>none
theorem Pu{l:List Nat}(h:iR l=true):PySem.NumText.AllDigits l/\l≠[]:=by
 unfold iR lR at h;rw[bV,bV] at h;refine⟨λc hc=>?_,λe=>?_⟩
 ·have:=cA.mp h.1.2 c hc;unfold kB at this;rw[bV] at this;exact⟨dM this.1,dM this.2⟩
 ·rw[dN e] at h;exact absurd h.1.1 (by decide)
theorem p7{a b s:Int}(hs:0<s):Builtin.Range.rangeSize a (b+1) s=if a<=b then (b-a) / s+1 else 0:=by
 unfold Builtin.Range.rangeSize;rw[if_pos hs];by_cases c:a<=b
 ·rw[if_pos c,if_pos ⋯,show b+1-a-1=b-a by omega]
 ·rw[if_neg c,if_neg ⋯]
theorem B1{a b s z:Int}(hs:0<s):z∈iB a b s↔a<=z/\z<=b/\(z-a)%s=0:=by
 rw[q9,bI,p7 hs];refine⟨λ⟨i,hi,e⟩=>?_,λ⟨h1,h2,h3⟩=>?_⟩
 ·subst e;by_cases c:a<=b
  ·rw[if_pos c,cJ] at hi;have hq:(i:Int)<=(b-a) / s:=by
    have:0<=(b-a) / s:=c6 ⋯ ⋯;omega
   have hm:(i:Int)*s<=(b-a) / s*s:=Int.mul_le_mul_of_nonneg_right hq ⋯;have hd:(b-a) / s*s<=b-a:=Int.ediv_mul_le _ ⋯;have h0:0<=(i:Int)*s:=Int.mul_nonneg ⋯ ⋯;refine⟨⋯,⋯,?_⟩;rw[show a+(i:Int)*s-a=(i:Int)*s by omega];exact Int.mul_emod_left _ _
  ·rw[if_neg c,cJ] at hi;exact absurd hi (by simp)
 ·rw[if_pos ⋯];have hd:s*((z-a) / s)+(z-a)%s=z-a:=Int.mul_ediv_add_emod _ _;rw[h3,Int.add_zero] at hd;have h0:0<=(z-a) / s:=c6 ⋯ ⋯;have hle:(z-a) / s<=(b-a) / s:=Int.ediv_le_ediv hs ⋯;refine⟨((z-a) / s).toNat,cJ.mpr ⋯,?_⟩;rw[bZ h0,Int.mul_comm];omega
theorem G6{a b s:Int}(h0:0<=a)(h1:b<=1000)(hs:0<s):(Builtin.Range.rangeSize a (b+1) s).toNat<=1001/\Builtin.Range.rangeSize a (b+1) s=((Builtin.Range.rangeSize a (b+1) s).toNat:Int):=by
 have hz:=HH (a:=a) (b:=b+1) hs;refine⟨?_,⋯⟩;rw[p7 hs];split
 ·have:(b-a) / s<=b-a:=Int.ediv_le_self _ ⋯;omega
 ·decide
theorem Qf{a b s:Int}(h0:0<=a)(ha:a<=1000)(h1: -1<=b)(hb:b<=1000)(hs:0<s)(hs2:s<=1000):Builtin.Range.small a (b+1) s=true:=by
 have hl:=G6 h0 hb hs;have hz:=HH (a:=a) (b:=b+1) hs;unfold Builtin.Range.small;simp only[Builtin.Range.rangeFitsLong,bV,Bool.or_eq_true,dO,beq_iff_eq];refine⟨⟨⟨⟨?_,?_⟩,?_⟩,?_⟩,.inr ?_⟩
 ·exact⟨⋯,⋯⟩
 ·exact⟨⋯,⋯⟩
 ·exact⟨⋯,⋯⟩
 ·exact⟨⋯,⋯⟩
 ·rw[if_pos hs];simp only[bV,dO];exact⟨⋯,⋯⟩
end L2
namespace L2
open PySem PySem.Spec PyProof.Rows PySem.Builtin PySem.Builtin.Str
theorem Ib{lo hi a:Int}{l:List Nat}(h:gJ lo hi l=some a):lo<=a/\a<=hi:=by
 unfold gJ at h;split at h
 ·split at h
  ·rename_i c;have:=bF h;omega
  ·cases h
 ·cases h
theorem I9{lo hi a b:Int}{l:List Nat}(hle:lo<=hi)(h:iP lo hi l=some (a,b)):(lo<=a/\a<=hi)/\lo<=b/\b<=hi:=by
 unfold iP at h;split at h
 ·cases h;omega
 ·have key:∀es:List (Option Int),(∀e∈es,∀x,e=some x->lo<=x/\x<=hi)->l4 es=some (a,b)->(lo<=a/\a<=hi)/\lo<=b/\b<=hi:=by
   intro es hb h
   match es,hb,h with
   |[some x],hb,h=>
    have h:some (x,x)=some (a,b):=h;cases h;have:=hb _ (by simp) a rfl;exact⟨this,this⟩
   |[some x,some y],hb,h=>
    have h:(if y<x then none else some (x,y))=some (a,b):=h;split at h
    ·cases h
    ·cases h;exact⟨hb (some a) (by simp) a rfl,hb (some b) (by simp) b rfl⟩
   |[],_,h=>cases h
   |[none],_,h=>cases h
   |[none,y],_,h=>cases h
   |[some x,none],_,h=>cases h
   |x::y::u::r,_,h=>cases x<;>cases y<;>cases h
  refine key _ (λe he x hx=>?_) h;obtain⟨w,_,rfl⟩:=bI.mp he;exact Ib hx
noncomputable def gL(ms:List Int):Int:=ms.foldl (λa m=>Builtin.bitOr a m) 0
theorem pz(ms:List Int)(m:Int):gL (ms++[m])=Builtin.bitOr (gL ms) m:=by unfold gL;rw[List.foldl_append];rfl
theorem tM:∀(ms:List Int) (a:Int),0<=a->(∀m∈ms,0<=m)->0<=ms.foldl (λa m=>Builtin.bitOr a m) a/\∀i,tb (ms.foldl (λa m=>Builtin.bitOr a m) a) i=(tb a i||ms.any λm=>tb m i)
 |[],a,h,_=>⟨h,λi=>by simp⟩
 |m::ms,a,h,hm=>by
  have hp:=hm m (by simp);obtain⟨h1,h2⟩:=tM ms (Builtin.bitOr a m) (kW h hp) λz hz=>hm z (by simp[hz]);refine⟨h1,λi=>?_⟩;show tb (ms.foldl _ (Builtin.bitOr a m)) i=_;rw[h2 i,mW h hp,cG,Bool.or_assoc]
theorem mv{ms:List Int}(h:∀m∈ms,0<=m):0<=gL ms:=(tM ms 0 (bB 0) h).1
theorem lW{ms:List Int}(h:∀m∈ms,0<=m)(i:Nat):tb (gL ms) i=ms.any λm=>tb m i:=by
 have:=(tM ms 0 (bB 0) h).2 i;rw[ji,Bool.false_or] at this;exact this
noncomputable def lb(lo hi:Int)(l:List Nat):List Int:=(eU 44 l).map λw=>(gH lo hi w).getD 0
def Hz(lo hi:Int)(l:List Nat):Prop:=(eU 44 l).length<=40/\∀w∈eU 44 l,(gH lo hi w).isSome=true
theorem lE:∀n:Nat,n<100->iR (num n)=true/\dv (num n)=(n:Int)/\((num n).all λc=>kB c)=true/\(num n).length<=2:=by decide +kernel
theorem jX{n c:Nat}(h:n<100)(hc:kB c=false):c∉num n:=λhm=>by
 have:=cA.mp (lE n h).2.2.1 c hm;rw[hc] at this;cases this
theorem Q7{n:Nat}(h:n<100):num n≠[42]:=λe=>by
 have:=jX h (c:=42) (by decide);rw[e] at this;exact this (by simp)
theorem rV{n:Nat}{lo hi:Int}(h:n<100)(h1:lo<=n)(h2:(n:Int)<=hi):gJ lo hi (num n)=some (n:Int):=by
 obtain⟨a,b,_⟩:=lE n h;unfold gJ;rw[if_pos a,b,if_pos ⟨h1,h2⟩]
theorem aJB{l:List Nat}{c:Nat}(hm:c∈l)(hc:kB c=false):iR l=false:=by
 cases e:iR l
 ·rfl
 ·unfold iR lR at e;rw[bV,bV] at e;have:=cA.mp e.1.2 c hm;rw[hc] at this;cases this
theorem HN{n:Nat}{lo hi:Int}(h:n<100)(h1:lo<=n)(h2:(n:Int)<=hi):iP lo hi (num n)=some ((n:Int),(n:Int)):=by
 unfold iP;rw[if_neg (Q7 h),nN 45 _ (jX h (by decide))];show l4 [gJ lo hi (num n)]=_;rw[rV h h1 h2];rfl
theorem Jk{n m:Nat}{lo hi:Int}(h:n<100)(h':m<100)(h1:lo<=n)(h2:n<=m)(h3:(m:Int)<=hi):iP lo hi (num n++45::num m)=some ((n:Int),(m:Int)):=by
 unfold iP;rw[if_neg (λe=>by (have:45∈num n++45::num m:=(by simp));rw[e] at this;simp at this),qR 45 _ _ (jX h (by decide)),nN 45 _ (jX h' (by decide))];show l4 [gJ lo hi (num n),gJ lo hi (num m)]=_;rw[rV h h1 ⋯,rV h' ⋯ h3];show (if (m:Int)<n then none else some ((n:Int),(m:Int)))=_;rw[if_neg ⋯]
theorem GE{lo hi:Int}:iP lo hi [42]=some (lo,hi):=by unfold iP;rw[if_pos rfl]
theorem sI{lo hi a b:Int}{r:List Nat}(hf:47∉r)(h:iP lo hi r=some (a,b)):gH lo hi r=some (jC a b 1):=by
 unfold gH;rw[nN 47 r hf,h]
theorem Aa{lo hi a b:Int}{r:List Nat}{s:Nat}(hf:47∉r)(h:iP lo hi r=some (a,b))(hs:s<100)(hs1:1<=s):gH lo hi (r++47::num s)=some (jC a (if iR r=true then hi else b) s):=by
 unfold gH;rw[qR 47 r _ hf,nN 47 _ (jX hs (by decide))];show j3 lo hi r (num s)=_;unfold j3;rw[h,rV hs ⋯ ⋯]
end L2
namespace L2
open PySem PySem.Spec PyProof.Rows PySem.Builtin PySem.Builtin.Str
theorem F2:∀{ws:List (List Nat)} {vs:List Value},Vals (ws.map λq=>V.str (Tx q)) vs->StrsAre vs (ws.map Tx)
 |[],[],_=>.nil
 |[],_::_,h=>nomatch h
 |_::_,[],h=>nomatch h
 |w::r,v::vs,.cons h t=>by
  obtain⟨k,rfl⟩:=h;exact .cons (Tx w) k (F2 t)
theorem NS(c:Nat)(ws:List (List Nat)):Txt.join (Tx [c]) (ws.map Tx)=Tx (gT c ws):=by
 have e1:Txt.join (Tx [c]) (ws.map Tx)=Str.join (Tx [c]) (ws.map Tx):=StrLaws.glued_eq_join _ _;have e2:=vN c (ws.map Tx);rw[cM] at e2;have e3:ws.map ((λx:Str=>x.cps.toList) ∘ Tx)=ws:=by
  have:∀l:List (List Nat),l.map ((λx:Str=>x.cps.toList) ∘ Tx)=l:=λl=>by
   induction l with
   |nil=>rfl
   |cons a r ih=>rw[bM,ih];simp
  exact this ws
 rw[e3] at e2;rw[e1,←Et (Str.join (Tx [c]) (ws.map Tx)),e2]
theorem Ki(c:Nat):∀ws:List (List Nat),(ws.map (·.length)).sum+ws.length=(gT c ws).length+(if ws=[] then 0 else 1)
 |[]=>rfl
 |[p]=>by simp[gT]
 |p::q::r=>by
  have ih:=Ki c (q::r);rw[if_neg (by simp)] at ih ⊢;simp only[bM,List.sum_cons,bX,gT,aZ] at ih ⊢;omega
section
variable{X:Cx}
def Fv(K:FG):V->List V->Hp->VK->Prop:=λx vs H Q=>∃(c:Nat) (p:Addr) (ws:List (List Nat)),x=.str (Tx [c])/\vs=[.ref p]/\SqL K H p (ws.map λq=>V.str (Tx q))/\(gT c ws).length<=1000000/\Q (.str (Tx (gT c ws))) H
theorem Pr:mX X "str.join" (Fv X.K):=by
 intro pins s σ H x xs v us Q I rx rv h;obtain⟨c,p,ws,rfl,rfl,hq,hz,q⟩:=h;obtain⟨u,rfl,r1⟩:=jh rv;cases r1;obtain⟨t,rfl⟩:=rx;obtain⟨its,rv2,pl,hz2⟩:=I.list hq;have hj:=Ki c ws;have hw:((ws.map Tx).map (·.length)).sum+(ws.map Tx).length<=1048576:=by
  rw[cM,aY];have e:ws.map ((λx:Str=>x.length) ∘ Tx)=ws.map (·.length):=List.map_congr_left λa _=>i6 a;rw[e];split at hj<;>omega
 refine join_listW pl.isList (ys:=ws.map Tx) (by simpa using F2 rv2) (by rw[i6];show 1<=16;decide) hw λt' k=>?_;refine⟨.str (Tx (gT c ws)),H,I.kept (t':=k) λ_ _ e=>e,⟨t',by rw[NS]⟩,q⟩
theorem aMQ{o e:Expr}{to te:TE}{apos cpos:Pos}(ho:E X o to)(he:E X e te)(hbase:attributeBase o "join" X.env (eval o X.env)=eval o X.env:=by rfl)
  (hfew:((backTo cpos (starEach [e] X.env)).all (λx=> !x.1)&&(backToKw cpos (keywordEach [] X.env)).all (λx=>x.1.isSome)&&decide (([e]:List Expr).length+([]:List Keyword).length+(if ([]:List Keyword).isEmpty then 0 else 1)<30))=true:=by rfl)
  (hline:(apos.endLine==cpos.line)=true:=by rfl) (hs:starEach [e] X.env=(false,eval e X.env)::starEach [] X.env:=by rfl) (hplain:(backTo cpos (starEach [] X.env)).any (·.1)=false:=by rfl):
  E X (.Call (.Attribute o "join" apos) [e] [] cpos) (nB X.K "str" (Fv X.K) to (ju te jt)):=
 ⟨oU PySem.F.plainAttrs_str PySem.F.slot_str_join PySem.F.type_str_join Pr ho.h (mj he.h mn hs) hbase hfew hline hs hplain⟩
theorem Bq:gE X (binaryOp .Add) (λx y H Q=>∃(a b:Addr) (xs ys:List V),x=.ref a/\y=.ref b/\SqL X.K H a xs/\SqL X.K H b ys/\xs.length+ys.length<=sizeLine/\∀p,H p=none->Q (.ref p) (upd H p (.lst (xs++ys)))):=by
 refine⟨λpins s σ H x y v u Q I rx ry h=>?_⟩;obtain⟨a,b,xs,ys,rfl,rfl,ha,hb,hz,q⟩:=h;cases rx;cases ry;obtain⟨i1,r1,p1,z1⟩:=I.list ha;obtain⟨i2,r2,p2,z2⟩:=I.list hb;obtain⟨⟨cls,dd,data,sl⟩,ho,hc,n,hd⟩:=p1.isList;obtain⟨⟨cls2,dd2,data2,sl2⟩,ho2,hc2,n2,hd2⟩:=p2.isList;simp only at hc hd hc2 hd2;subst hc hd hc2 hd2;have l1:=r1.length;have l2:=r2.length;refine concat_meets ⟨_,ho,rfl⟩ ⟨_,ho2,rfl⟩ noFill_list_add seq_list_add PySem.F.slot_list_add PySem.F.entry_list_add (PySem.F.args_list_add_2 _ _) (list_addW a b _ _ n n2 dd dd2 sl sl2 (by simp only[bJ];omega)) ⟨ho,ho2,?_⟩
 refine⟨.ref s.heap.objs.size,upd H s.heap.objs.size (.lst (xs++ys)),I.laid (t':=s.toks) (λb u e=>bD _ e) (aX _) ?_,rfl,q _ (I.hok.fresh (aX _))⟩;exact⟨by rw[aZ];exact hz,i1++i2,0,r1.append r2,by simpa using bO _ rfl⟩
end
def DD(J:It)(k:Nat)(js:List Nat)(g:TG)(σ:St)(tt:TT)(te:TE)(Q:VK)(H1:Hp):Prop:=∀D,H1 D=none->∃W:Nat->Nat->Hp->Prop,(∃m,W 0 m (upd H1 D (.lst [])))/\∀i m H2,W i m H2->
 (J.stop i H2/\Q (.ref D) H2)∨(J.go i H2/\∀v H3,J.yld i H2 v H3->∀τ:St,τ.length=k->g v (τ++gZ js σ) H3 λσ2 H3'=>(∃τ':St,τ'.length=k/\σ2=τ'++gZ js σ)/\tt σ2 H3' λb H4=>if b=true then
  te σ2 H4 λy H5=>∃ys,H5 D=some (.lst ys)/\ys.length<sizeLine/\∃m',m'<m/\W (i+1) m' (upd H5 D (.lst (ys++[y])))
  else ∃m',m'<m/\W (i+1) m' H4)
def Eb(wi:TI)(k:Nat)(js:List Nat)(g:TG)(tt:TT)(te:TE):TE:=λσ H Q=>wi σ H λJ H1=>DD J k js g σ tt te Q H1
section
variable{X:Cx}{elt iter tg:Expr}{xs:List Str}{y:Str}{py pos spos:Pos}{ifs:List Expr}{scope:Scope}{cl:List (Str×Addr)}{N':List Str}{js:List Nat}{tt:TT}{te:TE}{g:TG}{wi:TI}
theorem T2{pins:List (Addr×Obj)}{σ:St}{H:Hp}{s s4:Shared}{fp:List Addr}{C:Addr}{m4:Str->Option Value}(hcl:jH X scope cl)(hN:js.map (λj=>X.N[j]?)=N'.map some)
  (hk:N'.all (λy=>(X.env.kindOf y==some .cell)||(X.env.kindOf y==some .free))=true) (hf:N'.all (λy=>scope.names.lookup y==some .free)=true)
  (I:Inv X pins σ H s) (hfp:∀b∈fp,jM X pins H b/\b<s.heap.objs.size) (hC:C=s.heap.objs.size) (ho:s4.os=s.os) (hg:s4.gens=s.gens) (hkeep:∀b o,s.heap.get? b=some o->s4.heap.get? b=some o) (hn:s4.heap.Ns C m4):
  Inv (ip X (xs++N') scope cl C fp pins s H) [] (List.replicate xs.length none++gZ js σ) H s4:=by
 have hne:∀b o,s.heap.get? b=some o->b≠C:=λb o e=>by rw[hC];exact bE (a9 e)
 refine⟨⟨I.ok.mod,hcl.kind,I.ok.glob,I.ok.blt,Nat.le_of_eq hC.symm,λy z c h1 h2=>I.ok.inj y z c (hcl.sub y c h1) (hcl.sub z c h2),λy hy=>hcl.has y (P0 (λz=>hcl.nocell _ (PySem.mem_of_lookup z) rfl) (by rw[←BQ];exact hy)),λy c h _=>(nomatch h),I.ok.hd,I.ok.frames,.inl rfl,λb hb=>⟨?_,λy c e=>(hfp b hb).1.2.2.2.2.1 y c (hcl.sub y c e)⟩,
  I.bs,bR I.ok.bsz I.sz,λb o e hb=>?_,λb hb hz=>?_,I.stack,I.stkFree⟩,ho,by rw[hg];exact I.bare,Un.kept hkeep,⟨m4,hn,λi y v h1 h2 h3=>?_⟩,λy c e=>?_,?_,λy c e=>I.freeC y c (hcl.sub y c e),λp hp=>?_,I.hok.kept hkeep,?_⟩
 ·rw[hC];exact bE (hfp b hb).2
 ·rcases (hfp b hb).1.2.2.2.1 with z | z
  ·exact I.ok.noex b o e z
  ·exact absurd (bC (a9 e) (bR I.ok.bsz z)) (cI _)
 ·rcases bA.mp (I.stkSub b hz) with z | z
  ·exact (hfp b hb).1.2.1 z
  ·exact (hfp b hb).1.2.2.1 z
 ·by_cases hi:i<xs.length
  ·rw[List.getElem?_append_left (by rw[cY];exact hi),List.getElem?_replicate,if_pos hi] at h2;exact nomatch h2
  ·obtain⟨j0,rfl⟩:∃j0,i=xs.length+j0:=⟨i-xs.length,⋯⟩;have h1:N'[j0]? =some y:=by
    have h1:(xs++N')[xs.length+j0]? =some y:=h1;rw[List.getElem?_append_right (Nat.le_add_right _ _),Nat.add_sub_cancel_left] at h1;exact h1
   have h2:(gZ js σ)[j0]? =some (some v):=by rw[List.getElem?_append_right (by rw[cY];exact Nat.le_add_right _ _),cY,Nat.add_sub_cancel_left] at h2;exact h2
   generalize j0=i at h1 h2;have hy:y∈N':=bU h1;have q:(js.map (λj=>X.N[j]?))[i]? =some (some y):=by rw[hN,bN,h1];rfl
   rw[bN] at q;cases ej:js[i]? with
   |none=>rw[ej] at q;cases q
   |some j=>
    rw[ej] at q;have q:X.N[j]? =some y:=bF q;unfold gZ at h2;rw[bN,ej] at h2;have h2:(σ[j]?).getD none=some v:=bF h2;have h2:σ[j]? =some (some v):=by
     cases e:σ[j]? with
     |none=>rw[e] at h2;cases h2
     |some o=>rw[e] at h2;exact congrArg some h2
    have kk:=cA.mp hk y hy;have kk:X.env.kindOf y=some .cell∨X.env.kindOf y=some .free:=by simpa using kk
    have ff:=cA.mp hf y hy;have ff:scope.names.lookup y=some .free:=by simpa using ff
    obtain⟨m,_,hl⟩:=I.loc;obtain⟨u,r,l⟩:=hl j y v q h2 (by rcases kk with z | z;exact .inr (.inl z);exact .inr (.inr z))
    refine⟨u,r,.inr ⟨Rk ff,?_⟩⟩;obtain⟨c,hc⟩:=hcl.has y ff;rcases l with ⟨z,_⟩ | ⟨_,c',e',cell⟩
    ·rcases kk with k | k<;>(rw[k] at z;cases z)
    ·rw[hcl.sub y c hc] at e';cases e';exact⟨c,hc,cell.keeps hkeep⟩
 ·obtain⟨v,q⟩:=I.cell y c (hcl.sub y c e);exact⟨v,q.keeps hkeep⟩
 ·show H C=none;rw[hC];exact I.hok.fresh (aX _)
 ·have hp:p∈X.pn++pins:=by
   have hp:p∈(X.pn++pins)++[]:=hp
   rwa [cF] at hp
  obtain⟨e,n,ne,nf,d⟩:=I.pin p hp;refine⟨hkeep _ _ e,n,hne _ _ e,λz=>?_,d⟩;rcases bA.mp (I.stkSub p.1 z) with z | z
  ·exact ne z
  ·exact nf z
 ·show (List.replicate xs.length none++gZ js σ).length=(xs++N').length;rw[aZ,aZ,cY];have q:=congrArg List.length hN;rw[aY,aY] at q;unfold gZ;rw[aY,q]
theorem ay1{pins:List (Addr×Obj)}{σ σ':St}{H H':Hp}{s s':Shared}{fp:List Addr}{C:Addr}(I:Inv X pins σ H s)(hfp:∀b∈fp,jM X pins H b)(J:Inv (ip X (xs++N') scope cl C fp pins s H) [] σ' H' s'):Inv X pins σ H' s':=
 I.call' (ch:=fp) J.os J.base J.hok J.bare λb hb=>⟨(hfp b hb).2.2.2.1,(hfp b hb).2.1,(hfp b hb).2.2.2.2.1,(hfp b hb).2.2.2.2.2⟩
theorem CH{pins:List (Addr×Obj)}{σ:St}{H:Hp}{s:Shared}{Q:VK}{RR:Value->Addr->Result->Shared->Prop}{J:It}{fp:List Addr}{it:Addr}{tn:Nat->Heap->Prop}
  (hcl:jH X scope cl) (hnd:(xs++N').Nodup) (hN:js.map (λj=>X.N[j]?)=N'.map some)
  (hk:N'.all (λy=>(X.env.kindOf y==some .cell)||(X.env.kindOf y==some .free))=true) (hf:N'.all (λy=>scope.names.lookup y==some .free)=true) (hc:X.calm=true)
  (hg:∀(C:Addr) (ex:List Addr) (pins:List (Addr×Obj)) (s:Shared) (H:Hp),PG (ip X (xs++N') scope cl C ex pins s H) tg g)
  (ht:∀(C:Addr) (ex:List Addr) (pins:List (Addr×Obj)) (s:Shared) (H:Hp),PF (ip X (xs++N') scope cl C ex pins s H) ifs tt)
  (he:∀(C:Addr) (ex:List Addr) (pins:List (Addr×Obj)) (s:Shared) (H:Hp),PE (ip X (xs++N') scope cl C ex pins s H) elt te)
  (I:Inv X pins σ H s) (T:jk X.prog X.w X.K (tg) J fp it tn) (st:tn 0 s.heap) (hfp:∀b∈fp,jM X pins H b)
  (q:∀D,H D=none->∃W:Nat->Nat->Hp->Prop,(∃m,W 0 m (upd H D (.lst [])))/\∀i m H2,W i m H2->
   (J.stop i H2/\Q (.ref D) H2)∨(J.go i H2/\∀v H3,J.yld i H2 v H3->∀τ:St,τ.length=xs.length->g v (τ++gZ js σ) H3 λσ2 H3'=>(∃τ':St,τ'.length=xs.length/\σ2=τ'++gZ js σ)/\tt σ2 H3' λb H4=>if b=true then
    te σ2 H4 λy H5=>∃ys,H5 D=some (.lst ys)/\ys.length<sizeLine/\∃m',m'<m/\W (i+1) m' (upd H5 D (.lst (ys++[y])))
    else ∃m',m'<m/\W (i+1) m' H4))
  (hRR:∀(D C:Addr) (s':Shared) (H':Hp) (m:Str->Option Value),Inv X pins σ H' s'->H' C=none->C≠X.env.locals->X.s₀.heap.objs.size<=C->(∀y c,X.env.cells.lookup y=some c->c≠C)->(∀p∈X.pn++pins,p.1≠C)->s'.heap.Ns C m->Q (.ref D) H'->RR (.ref D) C (.ok .next) s'):
  wpAny (model X.prog X.w) X.A (newList []) (λacc s₃=>wpAny (model X.prog X.w) X.A (newFunctionEnv scope X.env.globals cl [] X.env.qual none .none (some X.env)) (λcenv s₄=>
   codeAny (model X.prog X.w) X.A (.compStart (.ListComp elt [⟨tg,iter,ifs,0⟩] scope pos) 0 (.ref it) acc {cenv with scope:=relabel scope X.env}) (RR acc cenv.locals) s₄) X.xe s₃) X.xe s:=by
 refine wpAny_newObj_type ?_;have hD:H s.heap.objs.size=none:=I.hok.fresh (aX _);have I3:Inv X pins σ (upd H s.heap.objs.size (.lst [])) {s with heap:=s.heap.push {cls:=.type "list",dict:=none,data:=.seq ([]:List Value).toArray} }:=I.lnew (its:=[]) (t':=s.toks) .nil (bK _);have hfp3:∀b∈fp,jM X pins (upd H s.heap.objs.size (.lst [])) b/\b<(s.heap.push {cls:=.type "list",dict:=none,data:=.seq ([]:List Value).toArray}).objs.size:=λb hb=>by
  obtain⟨o,ho,_⟩:=T.obj 0 _ st b hb;have hlt:=a9 ho;obtain⟨f0,f1⟩:=hfp b hb;exact⟨⟨by rw[eQ (bE hlt)];exact f0,f1⟩,by rw[Heap.size_push];exact Nat.lt_succ_of_lt hlt⟩
 have st3:tn 0 (s.heap.push {cls:=.type "list",dict:=none,data:=.seq ([]:List Value).toArray}):=T.keep _ _ _ st λb _ o e=>bD _ e;obtain⟨W,⟨m0,w0⟩,turn⟩:=q s.heap.objs.size hD;generalize hs3:({s with heap:=s.heap.push {cls:=.type "list",dict:=none,data:=.seq ([]:List Value).toArray} }:Shared)=s3 at I3 ⊢;have hh3:s.heap.push {cls:=.type "list",dict:=none,data:=.seq ([]:List Value).toArray}=s3.heap:=by rw[←hs3]
 rw[hh3] at hfp3 st3;generalize s.heap.objs.size=D at I3 hfp3 w0 turn hD ⊢;generalize upd H D (.lst [])=H3 at I3 hfp3 w0;refine wpAny_newFunctionEnv hcl.nocell (by intro y hy;simp at hy) (λh₁ hns₁ hsb₁=>?_) hcl.kind;have hkeep:∀b o,s3.heap.get? b=some o->h₁.get? b=some o:=λb o e=>hsb₁.extBut b o (bE (a9 e)) (bD _ e);have J4:Inv (ip X (xs++N') scope cl s3.heap.objs.size fp pins s3 H3) [] (List.replicate xs.length none++gZ js σ) H3 {s3 with heap:=h₁,toks:=s3.toks+([]:List (Str×Value)).length}:=
  T2 hcl hN hk hf I3 hfp3 rfl rfl rfl hkeep hns₁
 have st4:tn 0 h₁:=T.keep _ _ _ st3 λb _ o e=>hkeep b o e;have cell':∀{s':Shared} {σ':St} {H':Hp},Inv (ip X (xs++N') scope cl s3.heap.objs.size fp pins s3 H3) [] σ' H' s'->Q (.ref D) H'->RR (.ref D) s3.heap.objs.size (.ok .next) s':=λ{s' σ' H'} J hq=>by
  obtain⟨m,hn,_⟩:=J.loc;refine hRR D _ s' H' m (ay1 I3 (λb hb=>(hfp3 b hb).1) J) J.free (Nat.ne_of_gt I3.lt) I3.sz (λy c e z=>?_) (λp hp z=>?_) hn hq
  ·obtain⟨v,k⟩:=I3.cell y c e;exact absurd k.lt (by rw[z];exact cI _)
  ·exact absurd (a9 (I3.pin p hp).1) (by rw[z];exact cI _)
 have fpX:∀{H':Hp},(∀b∈fp,H' b=none)->∀b∈fp,jM (ip X (xs++N') scope cl s3.heap.objs.size fp pins s3 H3) [] H' b:=λ{H'} hn b hb=>by
  obtain⟨⟨f0,f1,f2,f3,f4,f5⟩,flt⟩:=hfp3 b hb;refine⟨hn b hb,bE flt,λz=>?_,.inl hb,λy c e=>f4 y c (hcl.sub y c e),λp hp=>?_⟩
  ·rcases bA.mp (I3.stkSub b z) with z | z
   ·exact f1 z
   ·exact f2 z
  ·have hp:p∈(X.pn++pins)++[]:=hp;rw[cF] at hp;exact f5 p hp
 have loop:∀s₄:Shared,s₄={s3 with heap:=h₁,toks:=s3.toks+([]:List (Str×Value)).length}->
   codeAny (model X.prog X.w) X.A (.compLoop (.ListComp elt [⟨tg,iter,ifs,0⟩] scope pos) 0 (.ref it) (.ref D) (compEnvC scope cl s3.heap.objs.size X.env)) (RR (.ref D) s3.heap.objs.size) s₄:=by
  rintro s₄ rfl;refine ZV rfl (λn s'=>∃i τ H',τ.length=xs.length/\Inv (ip X (xs++N') scope cl s3.heap.objs.size fp pins s3 H3) [] (τ++gZ js σ) H' s'/\tn i s'.heap/\(∀b∈fp,H' b=none)/\W i n H') ?_ m0 ⟨0,List.replicate xs.length none,H3,cY,J4,st4,λb hb=>(hfp3 b hb).1.1,w0⟩;rintro n s5 ⟨i,τ,H5,hτ,J5,st5,fr5,w5⟩;rcases turn i n H5 w5 with ⟨stop,qn⟩ | ⟨go,step⟩
  ·refine dH (T.done (ip X (xs++N') scope cl s3.heap.objs.size fp pins s3 H3) rfl rfl rfl hc i [] s5 _ H5 (λ_ _=>False) J5 (fpX fr5) st5 stop) (λr s6 ⟨hr,J6⟩=>?_) λ_ _ z=>z.elim;subst hr;exact cell' J6 qn
  ·refine dH (T.item (ip X (xs++N') scope cl s3.heap.objs.size fp pins s3 H3) rfl rfl rfl hc i [] s5 _ H5 (λ_ _=>False) J5 (fpX fr5) st5 go) (λr s6 ⟨u,hr,h6⟩=>?_) λ_ _ z=>z.elim;subst hr;refine dH h6 (λ_ s6' h6'=>?_) λ_ _ z=>z.elim;obtain⟨v,H6,J6,r6,y6,st6,fr6⟩:=h6';clear h6;have J6':=J6.pinned (fpX fr6) (T.obj _ _ st6);show wpAny _ _ (assign tg _ u) _ _ _;refine dH (hg _ _ _ _ _ _ s6' _ H6 v u _ J6' r6 (step v H6 y6 τ hτ)) (λ_ s7 h7=>?_) λ_ _ z=>z.elim
   obtain⟨_,H7,J7,⟨τ',hτ',rfl⟩,q7⟩:=h7;have again:∀{σ8:St} {H8:Hp} {s8:Shared},Inv (ip X (xs++N') scope cl s3.heap.objs.size fp pins s3 H3) ([]++pe fp s6'.heap) σ8 H8 s8->tn (i+1) s8.heap/\∀b∈fp,H8 b=none:=λ{σ8 H8 s8} J8=>by
    refine⟨T.keep _ _ _ st6 λb hb o e=>(J8.pin (b,o) (cE _ (cE _ (rj hb e)))).1,λb hb=>?_⟩;obtain⟨o,e,d⟩:=T.obj _ _ st6 b hb;exact (J8.pin (b,o) (cE _ (cE _ (rj hb e)))).2.1
   refine dH (ht _ _ _ _ _ _ s7 _ H7 _ J7 q7) (λok s8 ⟨H8,J8,q8⟩=>?_) λ_ _ z=>z.elim;cases ok with
   |false=>
    obtain⟨m',hm,w8⟩:=(show ∃m',m'<n/\W (i+1) m' H8 from q8);obtain⟨a1,a2⟩:=again J8;exact⟨m',hm,i+1,τ',H8,hτ',J8.unpinned,a1,a2,w8⟩
   |true=>
    refine dH (he _ _ _ _ _ _ s8 _ H8 _ J8 q8) (λy s9 ⟨z,H9,J9,r9,ys,hys,hlen,m',hm,w9⟩=>?_) λ_ _ z=>z.elim;refine dH (EV (X:=ip X (xs++N') scope cl s3.heap.objs.size fp pins s3 H3) _ s9 _ H9 (.ref D) [z] (.ref D) [y] (λ_ H10=>H10=upd H9 D (.lst (ys++[z]))) J9 rfl (.cons r9 .nil) ⟨D,ys,z,rfl,rfl,hys,hlen,rfl⟩) (λ_ s10 ⟨_,H10,J10,_,e10⟩=>?_) λ_ _ z=>z.elim;subst e10;obtain⟨a1,a2⟩:=again J10;exact⟨m',hm,i+1,τ',_,hτ',J10.unpinned,a1,a2,w9⟩
 exact codeAny_compStart_list (loop _ rfl) (T.self _ 0 _ _ _ st4 (loop _ rfl))
theorem TY(hcl:jH X scope cl)(hnd:(xs++N').Nodup)(hN:js.map (λj=>X.N[j]?)=N'.map some)
  (hk:N'.all (λy=>(X.env.kindOf y==some .cell)||(X.env.kindOf y==some .free))=true) (hf:N'.all (λy=>scope.names.lookup y==some .free)=true) (hc:X.calm=true)
  (hi:PI X (tg) iter wi)
  (hg:∀(C:Addr) (ex:List Addr) (pins:List (Addr×Obj)) (s:Shared) (H:Hp),PG (ip X (xs++N') scope cl C ex pins s H) tg g)
  (ht:∀(C:Addr) (ex:List Addr) (pins:List (Addr×Obj)) (s:Shared) (H:Hp),PF (ip X (xs++N') scope cl C ex pins s H) ifs tt)
  (he:∀(C:Addr) (ex:List Addr) (pins:List (Addr×Obj)) (s:Shared) (H:Hp),PE (ip X (xs++N') scope cl C ex pins s H) elt te)
  (hs:∀x,foldedSetIterable iter X.env x=pure x:=by intro _;rfl):
  PE X (.ListComp elt [⟨tg,iter,ifs,0⟩] scope pos) (Eb wi xs.length js g tt te):=by
 intro pins s σ H Q I h;rw[eval_ListComp];refine wpAny_comprehension_free (use:=none) rfl hs hcl.is hcl.kind hcl.names (eT (hi pins s σ H _ I h) λxv s₁ h₁=>eT h₁ λitv s₂ h₂=>?_);obtain⟨it,fp,tn,J,H2,rfl,I2,T,st,hfp,q⟩:=h₂;refine CH (RR:=λacc C=>compPost (model X.prog X.w) X.A X.xe none (EP X pins σ Q) acc C) hcl hnd hN hk hf hc hg ht he I2 T st hfp q ?_;intro D C s' H' m I' hC0 hCL hCs hCc hCp hn hq
 refine⟨m,hn,λh' sb=>⟨.ref D,H',?_,rfl,hq⟩⟩;exact I'.turned (t':=s'.toks) (λb o hb e=>(sb.2 b hb).trans e) hC0 hCL (.inr hCs) hCc hCp
theorem NY(xs N':List Str)(js:List Nat)(hi:Il X (tg) iter wi)
  (hg:∀(cl:List (Str×Addr)) (C:Addr) (ex:List Addr) (pins:List (Addr×Obj)) (s:Shared) (H:Hp),Gt (ip X (xs++N') scope cl C ex pins s H) tg g)
  (ht:∀(cl:List (Str×Addr)) (C:Addr) (ex:List Addr) (pins:List (Addr×Obj)) (s:Shared) (H:Hp),Fs (ip X (xs++N') scope cl C ex pins s H) ifs tt)
  (he:∀(cl:List (Str×Addr)) (C:Addr) (ex:List Addr) (pins:List (Addr×Obj)) (s:Shared) (H:Hp),E (ip X (xs++N') scope cl C ex pins s H) elt te)
  (hcl:∃cl,jH X scope cl:=by exact zm rfl rfl rfl rfl) (hnd:(xs++N').Nodup:=by decide +kernel) (hN:js.map (λj=>X.N[j]?)=N'.map some:=by rfl)
  (hk:N'.all (λy=>(X.env.kindOf y==some .cell)||(X.env.kindOf y==some .free))=true:=by rfl) (hf:N'.all (λy=>scope.names.lookup y==some .free)=true:=by rfl) (hc:X.calm=true:=by rfl)
  (hs:∀x,foldedSetIterable iter X.env x=pure x:=by intro _;rfl):E X (.ListComp elt [⟨tg,iter,ifs,0⟩] scope pos) (Eb wi xs.length js g tt te):=by
 obtain⟨cl,hcl⟩:=hcl;exact⟨TY hcl hnd hN hk hf hc hi.h (λC ex pins s H=>(hg cl C ex pins s H).h) (λC ex pins s H=>(ht cl C ex pins s H).h) (λC ex pins s H=>(he cl C ex pins s H).h) hs⟩
variable{σ:St}{Q:VK}{H1:Hp}
end
theorem oF{X:Cx}{pos:Pos}{K:FG}{es:List Expr}{k n:Nat}{t:j5}(h:pG X es t)(hK:X.K=K:=by rfl)(hc:X.calm=true:=by rfl)(hn:(assignEach es X.env).length=n:=by rfl)(hst:(assignEach es X.env).findIdx? (·.1)=none:=by rfl):Gt X (.Tuple es k pos) (qE K n t):=by
 subst hK;exact vc h hc hn hst
section
variable{X:Cx}
variable{elt iter tg:Expr}{xs:List Str}{y:Str}{py pos spos:Pos}{ifs:List Expr}{scope:Scope}{cl:List (Str×Addr)}{N':List Str}{js:List Nat}{tt:TT}{te:TE}{g:TG}{wi:TI}
end
end L2
namespace L2
open PySem PySem.Spec PyProof.Rows PySem.SeqAt
section
variable{X:Cx}
theorem kf{K:FG}{tg e:Expr}{te:TE}(hl:E X e te)(hK:X.K=K:=by rfl):Il X tg e (Ah K te):=by
 subst hK;exact iL hl
variable{M:Model}{A:Around}{E:Value->Shared->Prop}{s:Shared}{f:Obj->Prop}{B:Heap}{env:Env}{outer l:List Env}{L e:Addr}{fl:Value}{Q:Unit->Shared->Prop}
end
theorem ObjOk.at{P:Program}{w:World}{H:Hp}{h:Heap}{a:Addr}{o:HO}(x:ObjOk P w H h a o):∃ob,h.get? a=some ob:=by
 induction o with
 |lst xs=>obtain⟨_,_,_,_,e⟩:=x;exact⟨_,e⟩
 |tup xs=>obtain⟨_,_,_,ob,e,_⟩:=x;exact⟨_,e⟩
 |dK kvs=>obtain⟨_,_,_,_,ob,_,_,e,_⟩:=x;exact⟨_,e⟩
 |dT kvs=>obtain⟨_,_,_,_,ob,_,_,e,_⟩:=x;exact⟨_,e⟩
 |set S n=>obtain⟨ob,_,_,_,e,_⟩:=x;exact⟨_,e⟩
 |ins C dx fs=>obtain⟨_,_,_,e,_⟩:=x;exact⟨_,e⟩
 |own y=>exact x
 |xd fs=>obtain⟨_,⟨ob,_,_,e,_⟩,_⟩:=x;exact⟨_,e⟩
 |rng lo hi=>obtain⟨_,_,_,e⟩:=x;exact⟨_,e⟩
 |frz ob u ih=>exact⟨_,x.1⟩
 |tbl ps=>exact⟨_,x⟩
 |met f y=>exact⟨_,x⟩
 |ext φ=>exact x.2.1
def Ex(C:Addr)(d:Option Addr)(b:Bool)(o:Obj):Prop:=o.cls=.ref C/\o.dict=d/\∃vs,o.data=.fields vs/\(b=true->vs[2]? =some .none)
noncomputable def wc(C:Addr):Value:=.int C 0
noncomputable def cv(C:Addr):Bool->Value
 |true=>.ref C
 |false=>wc C
def N0(g h:Heap)(H:Hp)(a C:Addr)(d:Option Addr)(b:Bool):Prop:=
 H a=none/\g.get? a=none/\∃(o:Obj) (vs:Array Value) (T:Addr) (oT:Obj) (ts:Array Value),(h.get? a=some o/\o.data=.fields vs/\vs[1]? =some (.ref T)/\Ex C d b o)/\
  (h.get? T=some oT/\oT.data=.fields ts/\ts[3]? =some .none)/\(H T=none/\g.get? T=none)/\T≠a
def OA(P:Program)(w:World):lF:=λouter H s E e s'=>
 ∃a C d b H',e=.ref a/\s'.os=s.os/\AllBare s'.gens/\Un (j1 outer) [] H H' s.heap s'.heap/\HOk P w H' s'.heap/\N0 s.heap s'.heap H' a C d b/\E (cv C b) d H'
section
variable{P:Program}{w:World}{K:FG}{mg:Str->Option Value}{base:Heap}{N:List Str}{qual:Str}{scope:Scope}{f:Addr}{cd:Value}{A:Around}{outer:List Env}{s0:Shared}{H0:Hp}{E:XK}
end
noncomputable abbrev Jq:List Value:=[.type "ValueError",.type "Exception",.type "BaseException",.type "object"]
structure Xc(K:FG)(mg:Str->Option Value)(x:Str)(C:Addr):Prop where
 m:mg x=some (.ref C)
 n:PySem.W.nsIn K mainGlobals x=some (some (.ref C))
 q:PySem.W.excIn K C Jq "ValueError.__new__"=true
theorem Mod.top{K:FG}{mg:Str->Option Value}{base:Heap}(m:Mod K mg base)(p:Program):∃loose mb,PySem.W.TopRead p loose mg mb base:=by
 obtain⟨mb,b1,b2⟩:=m.blt;obtain⟨o,es,ep,ho,hd,hk,hf⟩:=id m.glob;refine⟨es.toList.filterMap λe=>match e.key with | .str y _=>some y | _=>none,mb,m.glob,b1,m.nolimit,b2,λx _ hx _ _ _=>?_⟩
 rw[←hf];have none_:es.find? (λe=>e.key.isStr x)=none:=by
  rw[Array.find?_eq_none];intro e he hs;obtain⟨y,t,ek⟩:=hk e he;refine hx (List.mem_filterMap.mpr ⟨e,by simpa using he,?_⟩);rw[ek] at hs ⊢;have:y=x:=by simpa [Value.isStr] using hs
  rw[this]
 show (es.find? λe=>e.key.isStr x).map (·.val)=none;rw[none_];rfl
theorem Xc.own{K:FG}{mg:Str->Option Value}{base:Heap}{x:Str}{C:Addr}(c:Xc K mg x C)(m:Mod K mg base)(p:Program):OwnCls x C Jq "ValueError.__new__" mg base:=by
 obtain⟨loose,mb,T⟩:=m.top p;exact PySem.W.own_of_in m.kin T c.n c.q
section
variable{X:Cx}{E:XK}{x:Str}{C:Addr}{e:Expr}{es:List Expr}{t:TA}{np cpos pos:Pos}
variable{P:Program}{w:World}{K:FG}{mg:Str->Option Value}{base:Heap}{N:List Str}{qual:Str}{scope:Scope}{f:Addr}{cd:Value}{A:Around}{outer:List Env}{s0:Shared}{H0:Hp}
variable{st:Stmt}{ps:List Str}{k:Nat}{sp:Sp}
end
def XP(X:Cx)(pins:List (Addr×Obj))(σ:St)(E:XK)(e:Value)(s':Shared):Prop:=∃s1 H1,Inv X pins σ H1 s1/\OA X.prog X.w X.stack H1 s1 E e s'
noncomputable abbrev TX:=St->Hp->VK->XK->Prop
noncomputable abbrev TB:=iw->St->Hp->XK->Prop
section
variable{X:Cx}{k k':Nat}{ps:List Str}{sp:Sp}{x:Str}{e:Expr}{es:List Expr}{tA:TA}{p pos:Pos}{t:TX}
variable{pins:List (Addr×Obj)}{σ:St}{H:Hp}{s:Shared}
end
noncomputable def xo(a C:Addr)(d:Option Addr)(b:Bool):HO:=.ext λh=>∃o,h.get? a=some o/\Ex C d b o
section
variable{X:Cx}{body suite:List Stmt}{b0:Stmt}{tb:TB}{th:Addr->TS}{cx n:Str}{np hpos pos:Pos}{CF:Addr}
variable{E:XK}{x:Str}{C:Addr}{e:Expr}{es:List Expr}{tA:TA}{cpos p:Pos}{k k':Nat}{ps:List Str}{sp:Sp}
end
def AtC(a C:Addr)(h:Heap):Prop:=∃o vs,h.get? a=some o/\o.cls=.ref C/\o.data=.fields vs
theorem AtC.ty{M:Model}{a C:Addr}{h:Heap}(x:AtC a C h):PySem.W.Looks M h (typeOf (.ref a)) (.ref C):=by
 obtain⟨o,vs,h1,h2,_⟩:=x;exact h2▸(PySem.W.Looks.ld h1).andThen .now
section
open PySem.W
variable{prog:Program}{w:World}{A:Around}{E:Value->Shared->Prop}{s:Shared}{K:FG}{a C:Addr}
open Builtin Builtin.ObjectAttr Builtin.Getset_descriptor in
open Builtin Builtin.ObjectAttr in
end
theorem oQ:∀{Cs:List Addr} {us:List Value},Vals (Cs.map V.ref) us->us=Cs.map Value.ref
 |[],_,.nil=>rfl
 |c::Cs,_,.cons h r=>by
  cases h;rw[oQ r];rfl
section
variable{X:Cx}{body suite:List Stmt}{b0:Stmt}{tb:TB}{th:Addr->TS}{cx:Str}{np hpos pos:Pos}{CF:Addr}
variable{prog:Program}{w:World}{A:Around}{E:Value->Shared->Prop}{s:Shared}{e C a:Addr}{d:Option Addr}
variable{env:Env}
end
section
variable{P:Program}{w:World}{K:FG}{mg:Str->Option Value}{base:Heap}{N:List Str}{qual:Str}{scope:Scope}{f:Addr}{cd:Value}{A:Around}{outer:List Env}{s0:Shared}{H0:Hp}{E:XK}
variable{X:Cx}{x:Str}{C a:Addr}{e:Expr}{es:List Expr}{t:TA}{np cpos pos p2:Pos}{j:Nat}
end
def WF:TE:=λ_ H Q=>∀p,H p=none->Q (.ref p) (upd H p (.dK []))
section
variable{X:Cx}{pos:Pos}{o i:Expr}{to ti:TE}
theorem Inv.bigM{pins:List (Addr×Obj)}{σ:St}{H:Hp}{s:Shared}(I:Inv X pins σ H s):sysModules<s.heap.objs.size:=by
 have h:mainGlobals<s.heap.objs.size:=(I.mod.glob.keeps I.bk).lt;exact Nat.lt_trans (by decide) h
theorem Mg:E X (.Dict [] [] pos) WF:=⟨λpins s σ H Q I h=>wpAny_Dict_empty ⟨.ref s.heap.objs.size,_,I.laid (a:=s.heap.objs.size) (o:=.dK []) (t':=s.toks) (λ_ _ q=>bD _ q) (aX _)
 ⟨bK _,beq_eq_false_iff_ne.mpr (Ne.symm (bE I.bigM)),[],.nil,Heap.DictOf.new s.heap⟩,rfl,h _ (I.hok.fresh (aX _))⟩⟩
theorem JE(ho:E X o to)(hi:E X i ti)(ha:∀v,assign (.Subscript o i pos) X.env v=(do
   let ov ←holding [v] (eval o X.env)
   let iv ←holding [v,ov] (eval i X.env)
   standAt pos
   holding [v,ov,iv] (setItem ov iv v)
   release [v,ov,iv] []):=by intro _;rfl):Gt X (.Subscript o i pos) (Jx to ti Hk):=⟨MV ho.h hi.h ZK ha⟩
end
theorem KindV.same{K:FG}{H H':Hp}{v:V}{k:Kd}(h:KindV K H v k)(s:Same H H'):KindV K H' v k:=by
 cases v with
 |ref a=>
  rcases h with ⟨e,xs,h⟩ | ⟨e,xs,h⟩ | ⟨e,xs,h⟩
  ·exact .inl ⟨e,xs,s.seq h⟩
  ·refine .inr (.inl ⟨e,xs,?_⟩);rcases h with (h | ⟨o,h⟩) | h
   ·exact .inl (.inl (s _ _ h))
   ·exact .inl (.inr ⟨o,s _ _ h⟩)
   ·exact .inr h
  ·exact .inr (.inr ⟨e,xs,s _ _ h⟩)
 |int i=>exact h
 |bl b=>exact h
 |str x=>exact h
 |non=>exact h
 |byt b=>exact h
 |flt b=>exact h
 |ty n=>exact h
section
variable{X:Cx}
variable{js:List Nat}{σ:St}{tt:TT}{te:TE}{Q:VK}{H1:Hp}
end
noncomputable def jz(l:List Nat)(lo hi:Option Int):List Nat:=(l.drop (HT.sIx l.length 0 lo)).take (HT.sIx l.length l.length hi-HT.sIx l.length 0 lo)
theorem FP(v:Option Int)(n d:Nat):(match v with | none=>(d:Int) | some i=>max 0 (min (if i<0 then i+(n:Int) else i) (n:Int)))=((HT.sIx n d v:Nat):Int):=by
 cases v with
 |none=>rfl
 |some i=>
  show max 0 (min (if i<0 then i+(n:Int) else i) (n:Int))=(((if i<0 then (i+(n:Int)).toNat else min i.toNat n):Nat):Int);by_cases h:i<0
  ·rw[if_pos h,if_pos h];omega
  ·rw[if_neg h,if_neg h];omega
theorem Fp(lo hi:Option Int)(n:Nat):Builtin.Str.strSliceIndices lo hi 1 n=sliceRange ((HT.sIx n 0 lo:Nat):Int) ((HT.sIx n n hi:Nat):Int) 1:=by
 unfold Builtin.Str.strSliceIndices;simp only[show ((1:Int)>0)=True from by simp,if_true];rw[←FP lo n 0,←FP hi n n];cases lo<;>cases hi<;>rfl
theorem D8(a b:Nat):sliceRange (a:Int) (b:Int) 1=(List.range (b-a)).map λk=>a+k:=by
 rcases Nat.lt_or_ge a b with c | c
 ·have up:(a:Int)<b:=⋯;have many:(((b:Int)-a+1-1) / 1).toNat=b-a:=by rw[Int.ediv_one];omega
  have e:∀k:Nat,((a:Int)+1*(k:Int)).toNat=a+k:=λk=>by omega
  simp only[sliceRange,gt_iff_lt,Int.one_pos,if_true,up,many,e]
 ·have no:¬((a:Int)<b):=⋯;have z:b-a=0:=⋯;simp only[sliceRange,gt_iff_lt,Int.one_pos,if_true,no,if_false,z,List.range_zero,List.map_nil];rfl
theorem T8(l:List Nat)(n a:Nat):((List.range n).map λk=>a+k).filterMap (λi=>(Tx l).cps[i]?)=(l.drop a).take n:=by
 rw[List.filterMap_map];induction n with
 |zero=>rw[List.take_zero];rfl
 |succ n ih=>
  have one:[n].filterMap ((λi=>(Tx l).cps[i]?) ∘ λk=>a+k)=(l[a+n]?).toList:=by
   show List.filterMap _ [n]=_;cases e:l[a+n]? <;>simp[e]
  rw[List.range_succ,dD,ih,one,List.take_add_one,List.getElem?_drop]
theorem aHB(l:List Nat)(lo hi:Option Int):(Builtin.Str.strSliceIndices lo hi 1 l.length).filterMap (λi=>(Tx l).cps[i]?)=jz l lo hi:=by
 rw[Fp,D8,T8];rfl
theorem azD(l:List Nat)(lo hi:Option Int)(h:(Builtin.Str.strSliceIndices lo hi 1 l.length).length=l.length):jz l lo hi=l:=by
 rw[Fp,D8,aY,List.length_range] at h;have h1:=HT.sIx_le l.length l.length (aX _) hi;have e1:HT.sIx l.length 0 lo=0∨l.length=0:=⋯;unfold jz;rcases e1 with e | e
 ·rw[e];have:HT.sIx l.length l.length hi=l.length:=⋯;rw[this];simp
 ·have:l=[]:=List.eq_nil_of_length_eq_zero e;subst this;simp
theorem qj(l:List Nat)(lo hi:Option Int):(jz l lo hi).length<=l.length:=by
 unfold jz;rw[cX,List.length_drop];omega
section
variable{X:Cx}
def wL:V->Option Int->Option Int->Hp->VK->Prop:=λx lo hi H Q=>∃l:List Nat,x=.str (Tx l)/\l.length<=sizeLine/\Q (.str (Tx (jz l lo hi))) H
theorem Ai:rN X wL:=by
 refine⟨λpins s σ H x v vl vu lo hi sl Q I rx hs pl pu h=>?_⟩;obtain⟨l,rfl,hz,q⟩:=h;obtain⟨t,rfl⟩:=rx;refine⟨"str",_,PySem.F.slot_str_getitem.lookup,typeIs_str _ _ _,?_⟩;obtain⟨o,ho,hc,hd⟩:=hs;have eY:∀(a b:Option (Int×Tok)),o.data=.fields #[partValue a,partValue b,.none]->a.map (·.1)=lo->b.map (·.1)=hi->wpAny (model X.prog X.w) X.A (getItem (.str (Tx l) t) (.ref sl)) (EP X pins σ Q) X.xe s:=λa b hd ea eb=>by
  refine wpAny_getItem_str_slice (l:=a) (u:=b) (st:=none) ⟨o,ho,hc,hd⟩ rfl ?_;have ep:slicePicked (Tx l) a b none=Builtin.Str.strSliceIndices lo hi 1 l.length:=by unfold slicePicked;rw[ea,eb,i6];rfl
  unfold sliceMade;rw[ep];split
  ·next hw=>
   have hw2:(Builtin.Str.strSliceIndices lo hi 1 l.length).length=l.length:=by
    have:=(Bool.and_eq_true_iff.mp hw).2;rw[i6] at this;exact beq_iff_eq.mp this
   show EP X pins σ Q _ s;rw[azD l lo hi hw2] at q;exact⟨.str (Tx l),H,I,⟨t,rfl⟩,q⟩
  ·rw[aHB];exact⟨by rw[i6];exact bR (qj l lo hi) hz,⟨.str (Tx (jz l lo hi)),H,I.tok _,⟨()⟩,q⟩⟩
 cases pl with
 |none=>
  cases pu with
  |none=>exact eY none none hd rfl rfl
  |int j tj=>exact eY none (some (j,tj)) hd rfl rfl
 |int i ti=>
  cases pu with
  |none=>exact eY (some (i,ti)) none hd rfl rfl
  |int j tj=>exact eY (some (i,ti)) (some (j,tj)) hd rfl rfl
theorem pW(m:Nat):num m≠[]:=λe=>Nat.toDigits_ne_nil (List.map_eq_nil_iff.mp e)
variable{prog:Program}{w:World}{A:Around}{E:Value->Shared->Prop}{s:Shared}{I:Addr}{fp wr:List Addr}{G:Array GenState->Array GenState->Prop}{n:Nat}{P:Nat->Value->Prop}{St:Nat->Shared->Prop}
variable{o e:Expr}{to te:TE}{p rpos apos cpos:Pos}
end
theorem kP{X:Cx}{e:Expr}{t u:TE}(h:E X e t)(h':E X e u):E X e (λσ H Q=>t σ H Q∨u σ H Q):=
 ⟨λpins s σ H Q I z=>z.elim (λz=>h.h pins s σ H Q I z) λz=>h'.h pins s σ H Q I z⟩
section
variable{X:Cx}
end
section
variable{κ:Type}[DecidableEq κ]
noncomputable def ir(kvs:List (κ×V))(k:κ):Option V:=(kvs.find? λkv=>decide (kv.1=k)).map (·.2)
noncomputable def iV(kvs:List (κ×V))(k:κ)(v:V):List (κ×V):=
 if (kvs.any λkv=>decide (kv.1=k))=true then kvs.map (λkv=>if kv.1=k then (kv.1,v) else kv) else kvs++[(k,v)]
theorem kC{p:κ×V}{r:List (κ×V)}{k:κ}(e:p.1=k):ir (p::r) k=some p.2:=by simp[ir,c7,e]
theorem kz{p:κ×V}{r:List (κ×V)}{k:κ}(e:¬p.1=k):ir (p::r) k=ir r k:=by simp[ir,c7,e]
theorem rq(k:κ):∀kvs:List (κ×V),(kvs.any λkv=>decide (kv.1=k))=(ir kvs k).isSome
 |[]=>rfl
 |p::r=>by
  rw[cG];by_cases e:p.1=k
  ·simp only[kC e,dN e,Bool.true_or,Option.isSome_some]
  ·rw[kz e,dP e,Bool.false_or];exact rq k r
theorem FM(k j:κ)(y:V):∀kvs:List (κ×V),ir (kvs.map λkv=>if kv.1=k then (kv.1,y) else kv) j=(ir kvs j).map λx=>if j=k then y else x
 |[]=>rfl
 |p::r=>by
  have ih:=FM k j y r;rw[bM];by_cases h:p.1=k
  ·rw[if_pos h];by_cases e:p.1=j
   ·rw[kC (p:=(p.1,y)) e,kC e,c5,if_pos (e.symm.trans h)]
   ·rw[kz (p:=(p.1,y)) e,kz e,ih]
  ·rw[if_neg h];by_cases e:p.1=j
   ·rw[kC (p:=p) e,kC e,c5,if_neg (λz=>h (e.trans z))]
   ·rw[kz (p:=p) e,kz e,ih]
theorem G0(k j:κ)(y:V):∀kvs:List (κ×V),ir kvs k=none->ir (kvs++[(k,y)]) j=if j=k then some y else ir kvs j
 |[],_=>by
  by_cases e:k=j
  ·rw[if_pos e.symm];exact kC (p:=(k,y)) e
  ·rw[if_neg (λz=>e z.symm)];exact kz (p:=(k,y)) e
 |p::r,hn=>by
  rw[List.cons_append];have hk:¬p.1=k:=λz=>by rw[kC z] at hn;cases hn
  rw[kz hk] at hn;have ih:=G0 k j y r hn;by_cases e:p.1=j
  ·rw[kC e,kC e,if_neg (λz=>hk (e.trans z))]
  ·rw[kz e,kz e,ih]
theorem FJ(kvs:List (κ×V))(k j:κ)(y:V):ir (iV kvs k y) j=if j=k then some y else ir kvs j:=by
 unfold iV;by_cases a:(kvs.any λkv=>decide (kv.1=k))=true
 ·rw[if_pos a,FM];rw[rq] at a;by_cases e:j=k
  ·obtain⟨x,hx⟩:=cW.mp a;rw[if_pos e,e,hx,c5,if_pos rfl]
  ·rw[if_neg e];cases ir kvs j with
   |none=>rfl
   |some x=>rw[c5,if_neg e]
 ·rw[if_neg a];refine G0 k j y kvs ?_;rw[rq] at a;cases q:ir kvs k with
  |none=>rfl
  |some x=>rw[q] at a;exact (a rfl).elim
theorem rd(kvs:List (κ×V))(k:κ)(v:V):(iV kvs k v).length<=kvs.length+1:=by
 unfold iV;split
 ·rw[aY];omega
 ·rw[aZ,bX,List.length_nil];omega
theorem RelO.isSome_eq{o:Option V}{u:Option Value}(r:RelO o u):o.isSome=u.isSome:=by
 cases o with
 |none=>cases u with
  |none=>rfl
  |some _=>exact (show False from r).elim
 |some _=>cases u with
  |none=>exact (show False from r).elim
  |some _=>rfl
theorem KV.val{kvs:List (κ×V)}{vs:List (κ×Value)}(r:KV kvs vs)(k:κ):RelO (ir kvs k) (valueAt vs k):=by
 unfold KV at r;induction r with
 |nil=>exact True.intro
 |@cons p q ps qs h t ih=>
  obtain⟨h1,h2⟩:=h;by_cases e:p.1=k
  ·have e':q.1=k:=h1.symm.trans e;have b:valueAt (q::qs) k=some q.2:=by simp[valueAt,c7,e']
   rw[kC e,b];exact h2
  ·have e':¬q.1=k:=λz=>e (h1.trans z);have b:valueAt (q::qs) k=valueAt qs k:=by simp[valueAt,c7,e']
   rw[kz e,b];exact ih
theorem KV.any{kvs:List (κ×V)}{vs:List (κ×Value)}(r:KV kvs vs)(k:κ):(kvs.any λkv=>decide (kv.1=k))=vs.any λkv=>decide (kv.1=k):=by
 unfold KV at r;induction r with
 |nil=>rfl
 |cons h t ih=>rw[cG,cG,ih,h.1]
theorem KV.repl{kvs:List (κ×V)}{vs:List (κ×Value)}(r:KV kvs vs)(k:κ){y:V}{u:Value}(ry:RelV y u):
  KV (kvs.map λkv=>if kv.1=k then (kv.1,y) else kv) (vs.map λkv=>if kv.1=k then (kv.1,u) else kv):=by
 unfold KV at r ⊢;induction r with
 |nil=>exact .nil
 |@cons p q ps qs h t ih=>
  rw[bM,bM];refine .cons ?_ ih;obtain⟨h1,h2⟩:=h;by_cases e:p.1=k
  ·rw[if_pos e,if_pos (h1.symm.trans e)];exact⟨h1,ry⟩
  ·rw[if_neg e,if_neg (λz=>e (h1.trans z))];exact⟨h1,h2⟩
theorem KV.put{kvs:List (κ×V)}{vs:List (κ×Value)}(r:KV kvs vs)(k:κ){y:V}{u:Value}(ry:RelV y u):KV (iV kvs k y) (stored vs k u):=by
 unfold iV stored;rw[r.any k];by_cases e:(vs.any λkv=>decide (kv.1=k))=true
 ·rw[if_pos e,if_pos e];exact r.repl k ry
 ·rw[if_neg e,if_neg e];exact Paired.snoc r ⟨rfl,ry⟩
theorem KV.length{kvs:List (κ×V)}{vs:List (κ×Value)}(r:KV kvs vs):kvs.length=vs.length:=Paired.length r
end
theorem nk{P:Program}{w:World}{k:fA}{u:Value}(r:RelV (kV k) u):(i7 P w).is k u=true:=by
 cases k with
 |inl i=>obtain⟨t,e⟩:=(show ∃t,u=Value.int i t from r);subst e;exact RM P w i t
 |inr x=>obtain⟨t,e⟩:=(show ∃t,u=Value.str x t from r);subst e;exact Nb P w x t
theorem pv{P:Program}{w:World}:∀{ks:List fA} {us:List Value},Vals (ks.map kV) us->ItemsAre (i7 P w) ks us
 |[],_,r=>by rw[List.map_nil] at r;cases r;exact .nil
 |k::ks,_,r=>by
  rw[bM] at r;cases r with
  |cons h t=>exact .cons (nk h) (pv t)
abbrev KT(H:Hp):List (List fA×V)->List (List fA×Addr×Value)->Prop:=Paired λp q=>p.1=q.1/\H q.2.1=some (.tup (p.1.map kV))/\RelV p.2 q.2.2
theorem KT.val{H:Hp}{kvs:List (List fA×V)}{xs:List (List fA×Addr×Value)}(r:KT H kvs xs)(k:List fA):RelO (ir kvs k) ((atKey xs k).map (·.2)):=by
 induction r with
 |nil=>exact True.intro
 |@cons p q ps qs h t ih=>
  obtain⟨h1,_,h2⟩:=h;by_cases e:p.1=k
  ·have e':q.1=k:=h1.symm.trans e;have b:atKey (q::qs) k=some q.2:=by simp[atKey,c7,e']
   rw[kC e,b];exact h2
  ·have e':¬q.1=k:=λz=>e (h1.trans z);have b:atKey (q::qs) k=atKey qs k:=by simp[atKey,c7,e']
   rw[kz e,b];exact ih
theorem KT.repl{H:Hp}{kvs:List (List fA×V)}{xs:List (List fA×Addr×Value)}(r:KT H kvs xs)(k:List fA){y:V}{u:Value}(ry:RelV y u):
  KT H (kvs.map λkv=>if kv.1=k then (kv.1,y) else kv) (xs.map (putAt k u)):=by
 induction r with
 |nil=>exact .nil
 |@cons p q ps qs h t ih=>
  rw[bM,bM];refine .cons ?_ ih;obtain⟨h1,h2,h3⟩:=h;unfold putAt;by_cases e:p.1=k
  ·rw[if_pos e,if_pos (h1.symm.trans e)];exact⟨h1,h2,ry⟩
  ·rw[if_neg e,if_neg (λz=>e (h1.trans z))];exact⟨h1,h2,h3⟩
theorem KT.put{H:Hp}{kvs:List (List fA×V)}{xs:List (List fA×Addr×Value)}(r:KT H kvs xs)(k:List fA){b:Addr}{y:V}{u:Value}(hb:H b=some (.tup (k.map kV)))(ry:RelV y u):
  KT H (iV kvs k y) (storedH xs k b u):=by
 have e:(kvs.any λkv=>decide (kv.1=k))=(atKey xs k).isSome:=by
  rw[rq,(r.val k).isSome_eq,Option.isSome_map]
 unfold iV storedH;rw[e];by_cases q:(atKey xs k).isSome=true
 ·rw[if_pos q,if_pos q];exact r.repl k ry
 ·rw[if_neg q,if_neg q];exact Paired.snoc r ⟨rfl,hb,ry⟩
theorem KT.keeps{H H':Hp}{kvs:List (List fA×V)}{xs:List (List fA×Addr×Value)}(r:KT H kvs xs)(ht:∀b ys,H b=some (.tup ys)->H' b=some (.tup ys)):KT H' kvs xs:=
 Paired.mapP r λ_ _ z=>⟨z.1,ht _ _ z.2.1,z.2.2⟩
section
variable{P:Program}{w:World}{H:Hp}{h:Heap}{a:Addr}
theorem HS{u:HO}(ok:HOk P w H h)(e:Rd H a u):ObjOk P w H h a u:=e.ok ok
theorem qU{kvs:List (fA×V)}(ok:HOk P w H h)(e:Rd H a (.dK kvs)):kvs.length<=sizeLine/\(a==sysModules)=false/\∃vs,KV kvs vs/\h.DictOf (i7 P w) a vs:=
 show ObjOk P w H h a (.dK kvs) from HS ok e
theorem D9{kvs:List (fA×V)}(ok:HOk P w H h)(e:H a=some (.dK kvs)):kvs.length<=sizeLine/\(a==sysModules)=false/\∃vs,KV kvs vs/\h.DictOf (i7 P w) a vs:=qU ok (.inl e)
theorem rl{ks:List fA}(ok:HOk P w H h)(e:H a=some (.tup (ks.map kV))):(tupleKind (i7 P w)).is h ks a:=by
 obtain⟨_,its,r,o,h1,h2,n,h3⟩:=(show ObjOk P w H h a (.tup (ks.map kV)) from ok a _ e);exact⟨o,its.toArray,n,h1,h2,h3,by simpa using pv r⟩
theorem qJ{kvs:List (List fA×V)}(ok:HOk P w H h)(e:Rd H a (.dT kvs)):kvs.length<=sizeLine/\(a==sysModules)=false/\
  ∃xs,KT H kvs xs/\h.DictOfH (tupleKind (i7 P w)) a xs:=by
 obtain⟨z,y,xs,r,o,es,ep,h1,h2,h3,h4,h5⟩:=(show ObjOk P w H h a (.dT kvs) from HS ok e);refine⟨z,y,xs,r,o,es,ep,h1,h2,h3,h4,λx hx=>?_,h5⟩;have all:∀{l:List (List fA×V)} {m:List (List fA×Addr×Value)},KT H l m->∀x∈m,(tupleKind (i7 P w)).is h x.1 x.2.1:=by
  intro l m q;induction q with
  |nil=>intro x hx;exact nomatch hx
  |@cons p q ps qs hq t ih=>
   intro x hx;rcases bA.mp hx with e | hx
   ·subst e;exact rl ok (by rw[←hq.1];exact hq.2.1)
   ·exact ih x hx
 exact all r x hx
theorem NF{kvs:List (List fA×V)}(ok:HOk P w H h)(e:H a=some (.dT kvs)):kvs.length<=sizeLine/\(a==sysModules)=false/\
  ∃xs,KT H kvs xs/\h.DictOfH (tupleKind (i7 P w)) a xs:=qJ ok (.inl e)
end
def DGet(H:Hp)(a:Addr)(y:V)(r:Option V):Prop:=
 (∃kvs k,Rd H a (.dK kvs)/\y=kV k/\r=ir kvs k)∨∃kvs k b,Rd H a (.dT kvs)/\y=.ref b/\H b=some (.tup (k.map kV))/\r=ir kvs k
def DPut(H:Hp)(a:Addr)(y v:V)(H':Hp):Prop:=
 (∃kvs k,H a=some (.dK kvs)/\y=kV k/\kvs.length<sizeLine/\H'=upd H a (.dK (iV kvs k v)))∨
 ∃kvs k b,H a=some (.dT kvs)/\y=.ref b/\H b=some (.tup (k.map kV))/\kvs.length<sizeLine/\H'=upd H a (.dT (iV kvs k v))
theorem DGet.k{H:Hp}{a:Addr}{kvs:List (fA×V)}{k:fA}(e:H a=some (.dK kvs)):DGet H a (kV k) (ir kvs k):=.inl ⟨kvs,k,.inl e,rfl,rfl⟩
theorem DGet.t{H:Hp}{a b:Addr}{kvs:List (List fA×V)}{k:List fA}(e:H a=some (.dT kvs))(eb:H b=some (.tup (k.map kV))):DGet H a (.ref b) (ir kvs k):=.inr ⟨kvs,k,b,.inl e,rfl,eb,rfl⟩
theorem DPut.k{H:Hp}{a:Addr}{kvs:List (fA×V)}{k:fA}{v:V}(e:H a=some (.dK kvs))(hl:kvs.length<sizeLine):DPut H a (kV k) v (upd H a (.dK (iV kvs k v))):=.inl ⟨kvs,k,e,rfl,hl,rfl⟩
theorem DPut.t{H:Hp}{a b:Addr}{kvs:List (List fA×V)}{k:List fA}{v:V}(e:H a=some (.dT kvs))(eb:H b=some (.tup (k.map kV)))(hl:kvs.length<sizeLine):
  DPut H a (.ref b) v (upd H a (.dT (iV kvs k v))):=.inr ⟨kvs,k,b,e,rfl,eb,hl,rfl⟩
section
variable{X:Cx}{pins:List (Addr×Obj)}{σ:St}{H:Hp}{s:Shared}{a:Addr}{y v:V}{u r:Value}{o:Option V}{A:Around}{E:Value->Shared->Prop}
theorem Inv.big(I:Inv X pins σ H s):sysModules<s.heap.objs.size:=by
 have h:mainGlobals<s.heap.objs.size:=(I.mod.glob.keeps I.bk).lt;exact Nat.lt_trans (by decide) h
theorem Sr{Q:Value->Shared->Prop}(hu:A.units+1<cLine)(I:Inv X pins σ H s)(g:DGet H a y (some v))(ry:RelV y u)(h:∀w' s',Inv X pins σ H s'->RelV v w'->Q w' s'):
  wpAny (model X.prog X.w) A (getItem (.ref a) u) Q E s:=by
 rcases g with ⟨kvs,k,e,ey,l⟩ | ⟨kvs,k,b,e,ey,eb,l⟩
 ·subst ey;obtain⟨z,hd,vs,rel,dd⟩:=qU I.hok e;obtain⟨w',hw,rw'⟩:=RelO.some_of (v:=v) (o:=valueAt vs k) (by rw[l];exact rel.val k);exact wpAny_getItem_of (nk ry) dd.mapOf hw (h w' _ (I.tok _) rw')
 ·subst ey;cases (show u=Value.ref b from ry);obtain⟨z,hd,xs,rel,dd⟩:=qJ I.hok e;obtain⟨w',hw,rw'⟩:=RelO.some_of (v:=v) (o:=(atKey xs k).map (·.2)) (by rw[l];exact rel.val k);obtain⟨p,hp,hp2⟩:=Option.map_eq_some_iff.mp hw;refine wpAny_getItem_heap (tupleKind_room_in1 hu) (rl I.hok eb) dd hp ?_;rw[hp2];exact h w' _ (I.tok _) rw'
theorem VC{Q:Value->Shared->Prop}(hu:A.units+1<cLine)(I:Inv X pins σ H s)(g:DGet H a y o)(ry:RelV y u)(h:∀s',Inv X pins σ H s'->Q (.bool (!o.isSome)) s'):
  wpAny (model X.prog X.w) A (compareOp .NotIn u (.ref a)) Q E s:=by
 rcases g with ⟨kvs,k,e,ey,l⟩ | ⟨kvs,k,b,e,ey,eb,l⟩
 ·subst ey;obtain⟨z,hd,vs,rel,dd⟩:=qU I.hok e;refine wpAny_notIn_of (nk ry) hd dd.mapOf ?_;rw[←(rel.val k).isSome_eq,←l];exact h _ (I.tok _)
 ·subst ey;cases (show u=Value.ref b from ry);obtain⟨z,hd,xs,rel,dd⟩:=qJ I.hok e;refine wpAny_notIn_heap (tupleKind_room_in1 hu) (rl I.hok eb) hd dd ?_;have q:=(rel.val k).isSome_eq;rw[Option.isSome_map] at q;rw[←q,←l];exact h _ (I.tok _)
theorem A5{h':Heap}{t':Nat}{ob:HO}(I:Inv X pins σ H s)(mu:oA (H a))(hs:Heap.SameBut a s.heap h')(he:∃q,h'.get? a=some q)(new:ObjOk X.prog X.w (upd H a ob) h' a ob):
  Inv X pins σ (upd H a ob) {s with heap:=h',toks:=t'}:=
 I.write (x:=a) (e:=a) mu (.inl rfl) (λb q hb z=>(hs.2 b hb).trans z) he new
theorem Jr{P:Program}{w:World}{H':Hp}{h':Heap}{kvs:List (fA×V)}{vs:List (fA×Value)}(z:kvs.length<=sizeLine)(hd:(a==sysModules)=false)(rel:KV kvs vs)(dd:h'.DictOf (i7 P w) a vs):
  ObjOk P w H' h' a (.dK kvs):=⟨z,hd,vs,rel,dd⟩
theorem ND{H':Hp}{Q:Unit->Shared->Prop}(hu:A.units+1<cLine)(I:Inv X pins σ H s)(g:DPut H a y v H')(ry:RelV y u)(rv:RelV v r)(h:∀s',Inv X pins σ H' s'->Q () s'):
  wpAny (model X.prog X.w) A (setItem (.ref a) u r) Q E s:=by
 rcases g with ⟨kvs,k,e,ey,l,eH⟩ | ⟨kvs,k,b,e,ey,eb,l,eH⟩
 ·subst ey eH;obtain⟨z,hd,vs,rel,dd⟩:=D9 I.hok e;have hz:vs.length<=sizeLine:=by rw[←rel.length];exact z
  have hl:(iV kvs k v).length<=sizeLine:=by have:=rd kvs k v;omega
  refine wpAny_setItem_pairs (hsz:=hz) (nk ry) dd λh' dd' hs=>h _ ?_;have he:∃q,h'.get? a=some q:=let ⟨q,_,_,hq,_⟩:=dd';⟨q,hq⟩;exact A5 I (by rw[e];exact True.intro) hs he (Jr hl hd (rel.put k rv) dd')
 ·subst ey eH;cases (show u=Value.ref b from ry);obtain⟨z,hd,xs,rel,dd⟩:=NF I.hok e;have hz:xs.length<=sizeLine:=by rw[←Paired.length rel];exact z
  have hl:(iV kvs k v).length<=sizeLine:=by have:=rd kvs k v;omega
  refine wpAny_setItem_heap (hsz:=hz) (tupleKind_room_in1 hu) (rl I.hok eb) dd λh' dd' hs=>h _ ?_;obtain⟨q,es,ep,hq,h2,h3,h4,_,h5⟩:=dd';refine A5 I (by rw[e];exact True.intro) hs ⟨q,hq⟩ ⟨hl,hd,_,(rel.put k eb rv).keeps λc ys ec=>?_,q,es,ep,hq,h2,h3,h4,h5⟩;rw[eQ (aPH ec e (λz=>nomatch z))];exact ec
variable{kvs:List (fA×V)}{k:fA}
end
def qe(i:Expr):Prop:=∀ov iv,subscripted i false ov iv=operate [ov,iv] (getItem ov iv)
theorem DU{prog:Program}{w:World}{A:Around}{E:Value->Shared->Prop}{s:Shared}{env:Env}{value slice:Expr}{pos:Pos}{T id:String}{Q:Value->Shared->Prop}
  (hl:typeLookup (.type T) "__getitem__"=pure (some (.builtin id))) (hs:qe slice)
  (h:wpAny (model prog w) A (eval value env) (λo s₁=>wpAny (model prog w) A (eval slice env) (λi s₂=>s₂.TypeIs o T/\wpAny (model prog w) A (getItem o i) Q E s₂) E s₁) E s):
  wpAny (model prog w) A (eval (.Subscript value slice pos) env) Q E s:=by
 refine Subscript_ (dH h (λo s₁ h₁=>dH h₁ (λi s₂ h₂=>?_) λ_ _ x=>x) λ_ _ x=>x);obtain⟨hT,h₂⟩:=h₂;unfold subscriptTail;refine dG ?_;rw[getitemInPython_of_ne hT.not_modules];refine dG (wpAny_specialOf hT hl ?_);have eY:wpAny (model prog w) A (subscripted slice false o i) (λr s₃=>wpAny (model prog w) A (letTemporaryGo value o r >>=λ_=>pure r) Q E s₃) E s₂:=by
  rw[hs o i];exact wpAny_operating (dH h₂ (λr s₃ h₃=>dG (wpAny_letTemporaryGo (dR h₃))) λ_ _ x=>x)
 first
  |exact dR (dG eY)
  |exact dG (dR (dG eY))
  |exact dG eY
theorem Mc{X:Cx}{pins:List (Addr×Obj)}{σ:St}{H:Hp}{s:Shared}{a:Addr}{y:V}{o:Option V}(I:Inv X pins σ H s)(g:DGet H a y o):s.TypeIs (.ref a) "dict":=by
 rcases g with ⟨kvs,k,e,_,_⟩ | ⟨kvs,k,b,e,_,_,_⟩
 ·obtain⟨_,_,vs,_,dd⟩:=qU I.hok e;exact dd.typeIs
 ·obtain⟨_,_,xs,_,dd⟩:=qJ I.hok e;exact dd.typeIs
def F7(td ty:TE):TE:=λσ H Q=>td σ H λx H1=>ty σ H1 λy H2=>∃a v,x=.ref a/\DGet H2 a y (some v)/\Q v H2
def Fe(ty td:TE):TE:=λσ H Q=>ty σ H λy H1=>td σ H1 λx H2=>∃a o,x=.ref a/\DGet H2 a y o/\Q (.bl (!o.isSome)) H2
def G2(td ty tv:TE):TS:=λD σ H=>tv σ H λv H1=>td σ H1 λx H2=>ty σ H2 λy H3=>∃a H4,x=.ref a/\DPut H3 a y v H4/\D.nx σ H4
section
variable{X:Cx}{o i e value:Expr}{pos pos' tpos:Pos}{td ty tv:TE}
theorem Vu(hu:X.A.units+1<cLine)(ho:PE X o td)(hi:PE X i ty)(hs:qe i):PE X (.Subscript o i pos) (F7 td ty):=by
 intro pins s σ H Q I h;refine DU PySem.F.slot_dict_getitem.lookup hs (eT (ho pins s σ H _ I h) λu s1 ⟨x,H1,I1,rx,q1⟩=>eT (hi pins s1 σ H1 _ I1 q1) λiv s2 ⟨y,H2,I2,ry,a,v,ex,g,q2⟩=>?_);subst ex;obtain rfl:u=Value.ref a:=rx;exact⟨Mc I2 g,Sr hu I2 g ry λw' s3 I3 rw'=>⟨v,H2,I3,rw',q2⟩⟩
theorem Zx(hu:X.A.units+1<cLine)(hi:PE X i ty)(ho:PE X o td):PC X .NotIn i o (Fe ty td):=by
 intro pins s σ H Q I h;refine eT (hi pins s σ H _ I h) λiv s1 ⟨y,H1,I1,ry,q1⟩=>eT (ho pins s1 σ H1 _ I1 q1) λu s2 ⟨x,H2,I2,rx,a,ov,ex,g,q2⟩=>?_;subst ex;obtain rfl:u=Value.ref a:=rx;exact VC hu I2 g ry λs3 I3=>⟨.bl (!ov.isSome),H2,I3,rfl,q2⟩
theorem Ra(hu:X.A.units+1<cLine)(ho:PE X o td)(hi:PE X i ty)(hv:PE X value tv)(hs:swapsWith value (some (.Subscript o i pos')) pos.line X.env=pure false):
  PS X (.Assign [.Subscript o i pos'] value pos) (G2 td ty tv):=by
 intro pins s σ H D I h;refine wpAny_Assign_Subscript (eT (hv pins s σ H _ I h) λr s1 ⟨v,H1,I1,rv,q1⟩=>eT (ho pins s1 σ H1 _ I1 q1) λu s2 ⟨x,H2,I2,rx,q2⟩=>eT (hi pins s2 σ H2 _ I2 q2) λiv s3 ⟨y,H3,I3,ry,a,H4,ex,g,q3⟩=>?_) hs;subst ex;obtain rfl:u=Value.ref a:=rx;exact ND hu I3 g ry rv λs4 I4=>⟨σ,H4,I4,q3⟩
end
theorem Pc{P:Program}{w:World}{H:Hp}(h:Heap)(hb:sysModules<h.objs.size):ObjOk P w H (h.push {cls:=.type "dict",data:=.dict #[]}) h.objs.size (.dK []):=
 ⟨bK _,beq_eq_false_iff_ne.mpr (Ne.symm (bE hb)),[],.nil,Heap.DictOf.new h⟩
section
variable{X:Cx}{pos:Pos}
end
def CA:List (TE×TE)->St->Hp->(List (V×V)->Hp->Prop)->Prop
 |[],_,H,Q=>Q [] H
 |(tk,tv)::r,σ,H,Q=>tk σ H λx H1=>tv σ H1 λy H2=>CA r σ H2 λps H3=>Q ((x,y)::ps) H3
abbrev VV:List (V×V)->List (Value×Value)->Prop:=Paired λp q=>RelV p.1 q.1/\RelV p.2 q.2
def pE(X:Cx)(pos:Pos)(keys:List (Option Expr))(values:List Expr)(trs:List (TE×TE)):Prop:=
 ∀(pins:List (Addr×Obj)) (s:Shared) (σ:St) (H:Hp) (Q:List (V×V)->Hp->Prop),Inv X pins σ H s->CA trs σ H Q->
  wpAny (model X.prog X.w) X.A (evalPairs (pairTrees keys values X.env pos)) (λvs s'=>∃ps H',Inv X pins σ H' s'/\VV ps vs/\Q ps H') X.xe s
theorem Mb{X:Cx}{pos:Pos}:pE X pos [] [] []:=λpins s σ H Q I h=>pairTrees_nil_walk ⟨[],H,I,.nil,h⟩
theorem Ob{X:Cx}{pos:Pos}{k v:Expr}{ks:List (Option Expr)}{vs:List Expr}{tk tv:TE}{trs:List (TE×TE)}(hk:PE X k tk)(hv:PE X v tv)(hr:pE X pos ks vs trs):
  pE X pos (some k::ks) (v::vs) ((tk,tv)::trs):=λpins s σ H Q I h=>
 pairTrees_cons_walk (eT (hk pins s σ H _ I h) λu s1 ⟨x,H1,I1,rx,q1⟩=>eT (hv pins s1 σ H1 _ I1 q1) λw2 s2 ⟨y,H2,I2,ry,q2⟩=>
  eT (hr pins s2 σ H2 _ I2 q2) λws s3 ⟨ps,H3,I3,rel,q3⟩=>⟨(x,y)::ps,H3,I3,.cons ⟨rx,ry⟩ rel,q3⟩)
noncomputable def m5(kvs more:List (fA×V)):List (fA×V):=more.foldl (λacc kv=>iV acc kv.1 kv.2) kvs
theorem KV.merge:∀{more:List (fA×V)} {rs:List (fA×Value)} {kvs:List (fA×V)} {vs:List (fA×Value)},KV more rs->KV kvs vs->KV (m5 kvs more) (merged vs rs):=by
 intro more rs kvs vs r;unfold KV at r;induction r generalizing kvs vs with
 |nil=>intro q;exact q
 |@cons p q ps qs h t ih=>
  intro r0;have e:KV (iV kvs p.1 p.2) (stored vs q.1 q.2):=by
   have:=r0.put p.1 h.2;rw[←h.1];exact this
  exact ih e
theorem IW:∀(more kvs:List (fA×V)),(m5 kvs more).length<=kvs.length+more.length
 |[],kvs=>by show kvs.length<=kvs.length+0;omega
 |p::r,kvs=>by
  have h1:=IW r (iV kvs p.1 p.2);have h2:=rd kvs p.1 p.2;show (m5 (iV kvs p.1 p.2) r).length<=_;rw[bX];omega
theorem JO{P:Program}{w:World}:∀{kvs:List (fA×V)} {ws:List (Value×Value)},VV (kvs.map λkv=>(kV kv.1,kv.2)) ws->∃rs,Carries (i7 P w) ws rs/\KV kvs rs
 |[],_,r=>by rw[List.map_nil] at r;cases r;exact⟨[],True.intro,.nil⟩
 |p::kvs,_,r=>by
  rw[bM] at r;cases r with
  |@cons a b as bs h t=>
   obtain⟨rs,c,q⟩:=JO (P:=P) (w:=w) t;obtain⟨b1,b2⟩:=b;exact⟨(p.1,b2)::rs,⟨nk h.1,rfl,c⟩,.cons ⟨rfl,h.2⟩ q⟩
def KQ(trs:List (TE×TE)):TE:=λσ H Q=>∀p,H p=none->CA trs σ (upd H p (.dK [])) λps H2=>H2 p=some (.dK [])/\∃kvs:List (fA×V),ps=kvs.map (λkv=>(kV kv.1,kv.2))/\kvs.length<=15/\Q (.ref p) (upd H2 p (.dK (m5 [] kvs)))
theorem Yj{X:Cx}{pos:Pos}{keys:List (Option Expr)}{values:List Expr}{trs:List (TE×TE)}(h:pE X pos keys values trs)(hall:keys.all (·.isSome)=true)(hl:keys.length=values.length)(h0:keys≠[])
  (h15:keys.length<=15):PE X (.Dict keys values pos) (KQ trs):=by
 intro pins s σ H Q I q;have hn:=I.hok.fresh (aX s.heap.objs.size);have I1:=I.laid (a:=s.heap.objs.size) (o:=.dK []) (h':=s.heap.push {cls:=.type "dict",data:=.dict #[]}) (t':=s.toks) (λ_ _ q=>bD _ q) (aX _) (Pc s.heap I.big);refine wpAny_Dict_walk (knd:=i7 X.prog X.w) hall hl h0 h15 (eT (h pins _ σ _ _ I1 (q _ hn)) λws s2 ⟨ps,H2,I2,rel,e,kvs,ep,lk,q2⟩=>?_);subst ep;obtain⟨rs,c,rk⟩:=JO (P:=X.prog) (w:=X.w) rel
 obtain⟨z,hd,vs0,r0,dd⟩:=D9 I2.hok e;cases r0;refine⟨rs,c,dd,λh' dd' hs=>⟨.ref s.heap.objs.size,_,?_,rfl,q2⟩⟩;have hz:(m5 [] kvs).length<=sizeLine:=by
  have h1:=IW kvs [];rw[List.length_nil] at h1;rw[dI];omega
 have he:∃q,h'.get? s.heap.objs.size=some q:=let ⟨q,_,_,hq,_⟩:=dd';⟨q,hq⟩;exact A5 I2 (by rw[e];exact True.intro) hs he (Jr hz hd (rk.merge .nil) dd')
section
variable{X:Cx}{pins:List (Addr×Obj)}{σ:St}{H:Hp}{s:Shared}{a:Addr}{y d:V}{u r:Value}{o:Option V}{A:Around}{E:Value->Shared->Prop}
end
section
variable{X:Cx}{o e f:Expr}{apos cpos:Pos}{td ty tx:TE}
variable{pins:List (Addr×Obj)}{σ:St}{H:Hp}{s:Shared}{a:Addr}{kvs:List (fA×V)}{A:Around}{E:Value->Shared->Prop}
variable{y:V}{u:Value}
end
structure rp(X:Cx)(pos:Pos)(keys:List (Option Expr))(values:List Expr)(trs:List (TE×TE)):Prop where
 h:pE X pos keys values trs
section
variable{X:Cx}{k:Nat}{o i kx vx:Expr}{td ty tk tv:TE}{pos:Pos}{keys:List (Option Expr)}{values:List Expr}{trs:List (TE×TE)}
theorem A6{A:Around}(hr:Room k A):A.units+1<cLine:=by have:=hr.un;omega
theorem JQ(hr:Room k X.A)(ho:E X o td)(hi:E X i ty)(hs:qe i:=by intro _ _;rfl):E X (.Subscript o i pos) (F7 td ty):=⟨Vu (A6 hr) ho.h hi.h hs⟩
theorem VB:rp X pos [] [] []:=⟨Mb⟩
theorem rJ(hk:E X kx tk)(hv:E X vx tv)(hr:rp X pos keys values trs):rp X pos (some kx::keys) (vx::values) ((tk,tv)::trs):=⟨Ob hk.h hv.h hr.h⟩
theorem Nd(h:rp X pos keys values trs)(ha:keys.all (·.isSome)=true:=by rfl)(hl:keys.length=values.length:=by rfl)(h0:keys≠[]:=by exact λz=>nomatch z)(h15:keys.length<=15:=by decide):E X (.Dict keys values pos) (KQ trs):=⟨Yj h.h ha hl h0 h15⟩
end
section
variable{prog:Program}{w:World}{A:Around}{E:Value->Shared->Prop}{s:Shared}{a:Addr}{es:Array (Int×Value)}{ep:Nat}{t:SetTable}{z:Int}{tk:Tok}
variable{R:Result->Shared->Prop}{I:Addr}{fp wr:List Addr}{G:Array GenState->Array GenState->Prop}{n:Nat}{P:Nat->Value->Prop}{St:Nat->Shared->Prop}
variable{M:Model}
variable{X:Cx}
end
section
variable{X:Cx}
theorem Jv(hu:X.A.units+64<cLine):gE X (compareOp .Eq) (λx y H Q=>∃(a b:Addr) (ps:List Addr),x=.ref a/\y=.ref b/\SqL X.K H a (ps.map V.ref)/\SqL X.K H b (ps.map V.ref)/\Q (.bl true) H):=by
 refine⟨λpins s σ H x y v u Q I rx ry h=>?_⟩;obtain⟨a,b,ps,rfl,rfl,ha,hb,q⟩:=h;cases rx;cases ry;obtain⟨its,rv,pl,_⟩:=I.list ha;obtain⟨its',rv',pl',_⟩:=I.list hb;cases oQ rv;cases oQ rv';refine SeqAt.eq_listAt (e:=λ_=>true) pl.isList pl'.isList rfl ⋯ (λi h1 h2=>SeqAt.EqAt.same _) ?_
 ·exact⟨.bl true,H,I,by show Value.bool _=Value.bool true;congr 1;simp,q⟩
variable{js:List Nat}{σ:St}{tt:TT}{te:TE}{Q:VK}{H1:Hp}
end
theorem lI{a b:List Nat}{A B:Prop}(h1:a=b->A)(h2:¬a=b->B):if decide (V.str (Tx a)=V.str (Tx b))=true then A else B:=by
 rw[pK];exact il h1 h2
theorem jv{a:List Nat}{A B:Prop}(h:A):if decide (V.str (Tx a)=V.str (Tx a))=true then A else B:=lI (λ_=>h) λc=>absurd rfl c
theorem gP{a b:List Nat}{A B:Prop}(c:¬a=b)(h:B):if decide (V.str (Tx a)=V.str (Tx b))=true then A else B:=lI (λe=>absurd e c) λ_=>h
end L2
namespace KM
open PySem PySem.Spec PyProof.Rows L2
inductive Mk where
 |num (m:Int) | lst (b:Int) | nea (d:Int) | wrk | wkd (m:Int) | nth (w m:Int) | one (w:Int) | nil
 deriving DecidableEq
abbrev Ko:=Option (List Mk)
def Lf(l f:Int):Prop:=(28<=l/\l<=31)/\0<=f/\f<=6
noncomputable def mw(ds:List Int):Int:=(ds.map λd=>1*2^d.toNat).sum
noncomputable def EK:List Int->Bool
 |[]=>true
 |[_]=>true
 |x::y::r=>decide (x<y)&&EK (y::r)
noncomputable def FQ(ds:List Int):Bool:=decide (ds.length<=31)&&(EK ds&&ds.all λd=>decide (0<=d)&&decide (d<=31))
theorem HV(ds:List Int):0<=mw ds:=by
 unfold mw;induction ds with
 |nil=>exact bB 0
 |cons d ds ih=>
  have:=jp d.toNat;rw[bM,List.sum_cons];omega
noncomputable def pC(m l:Int):Int:=Builtin.bitAnd m (2*2^l.toNat-2)
noncomputable def mh(b l:Int):Int:=if l<=b then 0 else 1*2^(l-b).toNat
noncomputable def li(m:Int)(n:Nat):Bool:=decide (Builtin.bitAnd (m / 2^(1+(n:Int)).toNat) 1=1)
noncomputable def j6(m:Int):Nat->List Int
 |0=>[]
 |n+1=>j6 m n++(if li m n=true then [1+(n:Int)] else [])
noncomputable def nw(d l f:Int):Int:=if (f+d-1)%7=6 then (if 1<d then d-1 else 3) else if (f+d-1)%7=0 then (if d<l then d+1 else l-2) else d
noncomputable def mi(d l f:Int):Int:=if l<d then 0 else 1*2^(nw d l f).toNat
noncomputable def wk(f:Int)(n:Nat):Bool:=decide (1<=(f+(1+(n:Int))-1)%7)&&decide ((f+(1+(n:Int))-1)%7<=5)
noncomputable def Do(f:Int):Nat->List Int
 |0=>[]
 |n+1=>Do f n++(if wk f n=true then [1+(n:Int)] else [])
noncomputable def ab(i:Int):Int:=if i<0 then -i else i
noncomputable def pf(d acc o:Int):Int:=if acc=0 then o else if ab (o-d)<ab (acc-d) then o else acc
noncomputable def mS(w m f:Int):Int:=1+(w-f)%7+7*(m-1)
noncomputable def lc(w m l f:Int):Int:=if l<mS w m f then 0 else 1*2^(mS w m f).toNat
noncomputable def qp(w l f:Int):Int:=l-((f+l-1)%7-w)%7
noncomputable def KI(w l f:Int):Int:=1*2^(qp w l f).toNat
noncomputable def oW(m:Int):Nat->Int
 |0=>0
 |n+1=>Builtin.bitOr (oW m n) (m*2^(7*(0+(n:Int))).toNat)
noncomputable def rF(m l f:Int):Int:=Builtin.bitAnd (oW m 6 / 2^f.toNat*2^(1:Int).toNat) (2*2^l.toNat-2)
noncomputable def Rz(f w:Int)(n:Nat):Bool:=decide ((f+(1+(n:Int))-1)%7=w)
noncomputable def rE(f w:Int):Nat->List Int
 |0=>[]
 |n+1=>rE f w n++(if Rz f w n=true then [1+(n:Int)] else [])
noncomputable def vy(m f:Int)(n:Nat):Bool:=decide (Builtin.bitAnd (m / 2^((f+(1+(n:Int))-1)%7).toNat) 1=1)
noncomputable def xG(m f:Int):Nat->List Int
 |0=>[]
 |n+1=>xG m f n++(if vy m f n=true then [1+(n:Int)] else [])
noncomputable def xc:List Int:=[1,2,3,4,5,6,7,8,9,10,11,12,13,14,15,16,17,18,19,20,21,22,23,24,25,26,27,28,29,30,31]
noncomputable def pq:List Int:=[28,29,30,31]
noncomputable def l3:List Int:=[0,1,2,3,4,5,6]
noncomputable def Hb:List Int:=[1,2,3,4,5]
noncomputable def qT:List Int:=(List.range 128).map λn:Nat=>(n:Int)
theorem YN:∀l∈pq,∀f∈l3,∀d∈xc,d<=l->(Do f l.toNat).foldl (pf d) 0=nw d l f/\1<=nw d l f/\nw d l f<=31:=by decide +kernel
theorem Oa:∀l∈pq,∀f∈l3,∀w∈l3,∀m∈Hb,lc w m l f=mw (GW (rE f w l.toNat) (some (m-1)) (some m))/\FQ (GW (rE f w l.toNat) (some (m-1)) (some m))=true/\0<=mS w m f/\mS w m f<=100:=by decide +kernel
theorem L5:∀l∈pq,∀f∈l3,∀w∈l3,iF ((rE f w l.toNat).map V.int) (-1)=some (V.int (qp w l f))/\0<=qp w l f/\qp w l f<=31:=by decide +kernel
theorem WQ:∀m∈qT,∀l∈pq,∀f∈l3,rF m l f=mw (xG m f l.toNat)/\FQ (xG m f l.toNat)=true:=by decide +kernel
theorem Ta:∀m∈qT,(∀n:Nat,n<7->(oW m n).natAbs<2^60)/\∀f∈l3,(oW m 6 / 2^f.toNat).natAbs<2^64:=by decide +kernel
theorem rM{l:Int}(h0:28<=l)(h1:l<=31):l∈pq:=by
 have:l=28∨l=29∨l=30∨l=31:=⋯;rcases this with rfl | rfl | rfl | rfl<;>decide
theorem mY{f:Int}(h0:0<=f)(h1:f<=6):f∈l3:=by
 have:f=0∨f=1∨f=2∨f=3∨f=4∨f=5∨f=6:=⋯;rcases this with rfl | rfl | rfl | rfl | rfl | rfl | rfl<;>decide
theorem yc{m:Int}(h0:1<=m)(h1:m<=5):m∈Hb:=by
 have:m=1∨m=2∨m=3∨m=4∨m=5:=⋯;rcases this with rfl | rfl | rfl | rfl | rfl<;>decide
theorem GD{m:Int}(h0:0<=m)(h1:m<=127):m∈qT:=by
 unfold qT;exact bI.mpr ⟨m.toNat,cJ.mpr ⋯,⋯⟩
theorem zO{d:Int}(h0:1<=d)(h1:d<=31):d∈xc:=by
 have e:d=1+((d-1).toNat:Int):=⋯;have hn:(d-1).toNat<31:=⋯;rw[e];generalize (d-1).toNat=n at hn;have all:∀n:Nat,n<31->(1+(n:Int))∈xc:=by decide +kernel
 exact all n hn
def qf(d l f:Int):Prop:=(1<=d/\d<=31)/\(28<=l/\l<=31)/\0<=f/\f<=6
theorem GC{d l f:Int}(h:qf d l f)(hd:d<=l):(Do f l.toNat).foldl (pf d) 0=nw d l f/\1<=nw d l f/\nw d l f<=31:=YN l (rM h.2.1.1 h.2.1.2) f (mY h.2.2.1 h.2.2.2) d (zO h.1.1 h.1.2) hd
theorem Lf.last{l f:Int}(h:Lf l f):qf l l f:=⟨⟨by have:=h.1.1;omega,h.1.2⟩,h.1,h.2⟩
theorem LV{m:Int}(h:0<=m)(n:Nat):li m n=tb m (n+1):=by
 have e:(1+(n:Int)).toNat=n+1:=⋯;unfold li;rw[e];by_cases c:tb m (n+1)=true
 ·rw[c];exact dN ((qu h _).mpr c)
 ·have c':tb m (n+1)=false:=by simpa using c
  rw[c'];exact dP λq=>c ((qu h _).mp q)
noncomputable def oz(m:Int)(i:Nat):Bool:=decide (1<=i)&&tb m i
theorem EM{m:Int}(h:0<=m):∀n:Nat,mw (j6 m n)=kh (oz m) (n+1)
 |0=>by
  have e:oz m 0=false:=rfl;rw[Kj,Qb,e];rfl
 |n+1=>by
  have ih:=EM h n;rw[Kj,←ih];show mw (j6 m n++(if li m n=true then [1+(n:Int)] else []))=_;have e:oz m (n+1)=li m n:=by rw[LV h];unfold oz;simp
  have e1:(1+(n:Int)).toNat=n+1:=⋯;rw[e];unfold mw;rw[a8,c8];by_cases c:li m n=true
  ·rw[if_pos c,if_pos c];show _+(1*2^(1+(n:Int)).toNat+0)=_;rw[e1];omega
  ·rw[if_neg c,if_neg c];rfl
theorem Fg(m:Int):∀n:Nat,(j6 m n).length<=n/\(j6 m n).Pairwise (·<·)/\∀d∈j6 m n,0<=d/\d<=n
 |0=>⟨aX _,.nil,λd hd=>nomatch hd⟩
 |n+1=>by
  obtain⟨h1,hp,h2⟩:=Fg m n;show (j6 m n++(if li m n=true then [1+(n:Int)] else [])).length<=n+1/\(j6 m n++(if li m n=true then [1+(n:Int)] else [])).Pairwise (·<·)/\∀d∈j6 m n++(if li m n=true then [1+(n:Int)] else []),_;split
  ·refine⟨by simp;omega,List.pairwise_append.mpr ⟨hp,.cons (λ_ h=>nomatch h) .nil,λa ha b hb=>?_⟩,λd hd=>?_⟩
   ·have:b=1+(n:Int):=by simpa using hb
    have:=h2 a ha;omega
   ·rcases b9.mp hd with z | z
    ·have:=h2 d z;omega
    ·have:d=1+(n:Int):=by simpa using z
     omega
  ·rw[cF];refine⟨⋯,hp,λd hd=>?_⟩;have:=h2 d hd;omega
theorem Zq{m l:Int}(h:0<=m)(hl:28<=l/\l<=31):pC m l=mw (j6 m l.toNat)/\(j6 m l.toNat).length<=31/\(j6 m l.toNat).Pairwise (·<·)/\∀d∈j6 m l.toNat,0<=d/\d<=31:=by
 obtain⟨k1,kp,k2⟩:=Fg m l.toNat;have hp:=jp l.toNat;refine⟨?_,⋯,kp,λd hd=>by have:=k2 d hd;omega⟩;rw[EM h];have e:(2*2^l.toNat-2:Int)=(2^l.toNat-1)*2^1:=⋯;have n0:(0:Int)<=2^l.toNat-1:=⋯;have n1:(0:Int)<=(2^l.toNat-1)*2^1:=⋯;unfold pC;rw[e];refine ki (m8 h n1) (qt _ _) λi=>?_;rw[mQ h n1,qZ n0,z3,qY];unfold oz;by_cases c1:1<=i
 ·have:(i-1<l.toNat)↔(i<l.toNat+1):=⋯;simp only[c1,this,decide_true,Bool.true_and];rw[Bool.and_comm]
 ·simp[c1]
theorem rng{l:Int}(hl:28<=l/\l<=31):(-(2^62)<=(1:Int)/\(1:Int)<2^62/\ -(2^62)<=l+1/\l+1<2^62)/\(l+1-1).toNat=l.toNat/\(l+1-1).toNat<=sizeLine:=by
 obtain⟨h0,h1⟩:=hl;refine⟨⟨by decide,by decide,⋯,⋯⟩,⋯,?_⟩;rw[dI];omega
noncomputable def lz(w m:Int):List (Str×V):=fF "many" (.int m) (fF "weekday" (.int w) [])
theorem TM:¬(("weekday":Str)="many"):=by decide +kernel
theorem LU(w m:Int):(lz w m).lookup ("weekday":Str)=some (.int w):=by
 unfold lz;rw[fH,if_neg TM,fH,if_pos rfl]
theorem M4(w m:Int):(lz w m).lookup ("many":Str)=some (.int m):=by
 unfold lz;rw[fH,if_pos rfl]
theorem aEJ(w m:Int):(lz w m).lookup ("days":Str)=none:=by
 unfold lz;rw[fH,if_neg (by decide +kernel),fH,if_neg (by decide +kernel)];rfl
noncomputable def Mk.due:Mk->Int->Int->Int
 |.num m,l,_=>pC m l
 |.lst b,l,_=>mh b l
 |.nea d,l,f=>mi d l f
 |.wrk,l,f=>1*2^(nw l l f).toNat
 |.wkd m,l,f=>rF m l f
 |.nth w m,l,f=>lc w m l f
 |.one w,l,f=>KI w l f
 |.nil,_,_=>0
def Mk.ok:Mk->Prop
 |.num m=>0<=m
 |.lst b=>0<=b/\b<=30
 |.nea d=>1<=d/\d<=31
 |.wrk=>True
 |.wkd m=>0<=m/\m<=127
 |.nth w m=>(0<=w/\w<=6)/\1<=m/\m<=5
 |.one w=>0<=w/\w<=6
 |.nil=>True
noncomputable def Mk.wk:Mk->Bool
 |.wkd _ | .nth _ _ | .one _=>true
 |_=>false
noncomputable def Mk.tup:Mk->List V
 |.num m=>[.str (Tx [112,108,97,105,110]),.int m,.int 0]
 |.wkd m=>[.str (Tx [112,108,97,105,110]),.int m,.int 0]
 |.lst b=>[.str (Tx [108,97,115,116]),.int b,.int 0]
 |.nea d=>[.str (Tx [110,101,97,114]),.int d,.int 0]
 |.wrk=>[.str (Tx [119,111,114,107]),.int 0,.int 0]
 |.nth w m=>[.str (Tx [110,116,104]),.int w,.int m]
 |.one w=>[.str (Tx [108,97,115,116,111,110,101]),.int w,.int 0]
 |.nil=>[]
noncomputable def Mk.sp:Mk->Bool
 |.nil=>false
 |_=>true
theorem KS{k:Mk}{l f:Int}(hk:k.ok)(h:Lf l f):0<=k.due l f:=by
 have p1:∀n:Nat,(0:Int)<=1*2^n:=λn=>by have:=jp n;omega
 cases k with
 |num m=>show 0<=pC m l;rw[(Zq hk h.1).1];exact HV _
 |lst b=>show 0<=mh b l;unfold mh;split;exact bB 0;exact p1 _
 |nea d=>show 0<=mi d l f;unfold mi;split;exact bB 0;exact p1 _
 |wrk=>exact p1 _
 |wkd m=>show 0<=rF m l f;rw[(WQ m (GD hk.1 hk.2) l (rM h.1.1 h.1.2) f (mY h.2.1 h.2.2)).1];exact HV _
 |nth w m=>show 0<=lc w m l f;unfold lc;split;exact bB 0;exact p1 _
 |one w=>exact p1 _
 |nil=>exact bB 0
noncomputable def lK(ks:List Mk)(l f:Int):Int:=gL (ks.map λk=>k.due l f)
theorem W6(ks:List Mk)(k:Mk)(l f:Int):lK (ks++[k]) l f=Builtin.bitOr (lK ks l f) (k.due l f):=by unfold lK;rw[a8];exact pz _ _
structure Cs where
 (nu la ne lw we nt lo ma:Addr)
def MkAt(c:Cs)(H:Hp)(x:Addr):Mk->Prop
 |.num m=>∃dx,H x=some (.ins c.nu dx [("mask",.int m)])
 |.lst b=>∃dx,H x=some (.ins c.la dx [("back",.int b)])
 |.nea d=>∃dx,H x=some (.ins c.ne dx [("day",.int d)])
 |.wrk=>∃dx,H x=some (.ins c.lw dx [])
 |.wkd m=>∃dx,H x=some (.ins c.we dx [("mask",.int m)])
 |.nth w m=>∃dx,H x=some (.ins c.nt dx (lz w m))
 |.one w=>∃dx,H x=some (.ins c.lo dx [("weekday",.int w)])
 |.nil=>∃dx,H x=some (.ins c.ma dx [])
theorem MkAt.keep{c:Cs}{H H':Hp}(s:Keep H H'){x:Addr}{k:Mk}(h:MkAt c H x k):MkAt c H' x k:=by
 cases k<;>(obtain⟨dx,h⟩:=h;exact⟨dx,s.ins h⟩)
abbrev Ft(R:Addr->Mk->Prop):List Addr->List Mk->Prop:=Paired R
theorem Ft.get{R:Addr->Mk->Prop}:∀{ps:List Addr} {ks:List Mk},Ft R ps ks->∀{i:Nat} {p:Addr},ps[i]? =some p->∃k,ks[i]? =some k/\R p k
 |_,_,.nil,_,_,h=>nomatch h
 |_,_,.cons r _,0,_,h=>by cases h;exact⟨(),r⟩
 |_,_,.cons _ t,i+1,_,h=>Ft.get t h
theorem Ft.keepM{c:Cs}{H H':Hp}(s:Keep H H'){ps:List Addr}{ks:List Mk}(h:Ft (MkAt c H) ps ks):Ft (MkAt c H') ps ks:=Paired.imp' (λ_ _ z=>z.keep s) h
theorem Ft.app{R:Addr->Mk->Prop}:∀{ps:List Addr} {ks:List Mk} {ps':List Addr} {ks':List Mk},Ft R ps ks->Ft R ps' ks'->Ft R (ps++ps') (ks++ks')
 |_,_,_,_,.nil,h=>h
 |_,_,_,_,.cons r t,h=>.cons r (Ft.app t h)
end KM
namespace L2
open PySem
theorem Ii{us:List Value}(h:us.length=1):∃a,us=[a]:=by
 cases us with
 |nil=>cases h
 |cons a r=>cases r with
  |nil=>exact⟨a,rfl⟩
  |cons b r=>cases h
theorem BR{us:List Value}{n:Nat}(h:us.length=n+1):∃a r,us=a::r/\r.length=n:=by
 cases us with
 |nil=>cases h
 |cons a r=>exact⟨a,r,rfl,Nat.succ.inj h⟩
theorem GY{us:List Value}(h:us.length=2):∃a b,us=[a,b]:=by
 obtain⟨a,r,rfl,h'⟩:=BR h;obtain⟨b,rfl⟩:=Ii h';exact⟨a,b,rfl⟩
theorem GZ{us:List Value}(h:us.length=3):∃a b c,us=[a,b,c]:=by
 obtain⟨a,r,rfl,h'⟩:=BR h;obtain⟨b,c,rfl⟩:=GY h';exact⟨a,b,c,rfl⟩
theorem vR{us:List Value}(h:us.length=4):∃a b c d,us=[a,b,c,d]:=by
 obtain⟨a,r,rfl,h'⟩:=BR h;obtain⟨b,c,d,rfl⟩:=GZ h';exact⟨a,b,c,d,rfl⟩
structure FH(P:Program)(w:World)(K:FG)(mg:Str->Option Value)(base:Heap)(f:Addr)(k:Nat)(ps:List Str)(sp:Sp):Prop where
 ex:∃fd:FuncData,gF P w K mg base je k f fd ps sp/\Binds K fd ps []/\PySem.W.keepIn K (.ref f)=true
theorem Df.at_{P:Program}{w:World}{K:FG}{mg:Str->Option Value}{base:Heap}{x:Str}{k:Nat}{ps:List Str}{sp:Sp}{f:Addr}(D:Df P w K mg base x k ps sp)(hm:mg x=some (.ref f)):FH P w K mg base f k ps sp:=by
 obtain⟨f',fd,F,hb,hm',kp⟩:=D.ex;rw[hm] at hm';cases hm';exact⟨fd,F,hb,kp⟩
def Vn(f:Addr)(sp:Sp)(tv:TE)(t:TA):TE:=λσ H Q=>tv σ H λv H1=>v=.ref f/\pS sp [] E0 t σ H1 Q
section
variable{X:Cx}{f:Addr}{k k':Nat}{ps:List Str}{sp:Sp}{y:Str}{e:Expr}{es:List Expr}{t:TA}{tv:TE}{p pos:Pos}
theorem IZ(D:FH X.prog X.w X.K X.mg X.base f k ps sp)(hr:Room k' X.A)(hv:E X (.Name y p) tv)(ha:As X (e::es) t)(hk:k<=k':=by decide)
  (he:starEach (e::es) X.env=(false,eval e X.env)::starEach es X.env:=by rfl) (hpl:(backTo pos (starEach es X.env)).any (·.1)=false:=by rfl):E X (.Call (.Name y p) (e::es) [] pos) (Vn f sp tv t):=by
 obtain⟨fd,F,hb,kp⟩:=D.ex;refine⟨λpins s σ H Q I h=>?_⟩;refine dQ (eT (hv.h pins s σ H _ I h) λv s1 ⟨x,H1,I1,r1,ex,q⟩=>?_);subst ex;cases r1;refine PySem.W.callWith_K (h₀:=X.base) I1.ok.mod.kin kp (eT (ha.h pos pins s1 σ H1 _ I1 q) λus s2 ⟨vs,H2,I2,r,q2⟩=>⟨I2.kIn,?_⟩) he hpl;exact rA F (hr.mono hk) hb .nil ng I2 r q2
end
section
variable{X:Cx}
def Jj:V->List V->Hp->VK->Prop:=λx vs H Q=>∃l p:List Nat,x=.str (Tx l)/\vs=[.str (Tx p)]/\Q (.bl (decide (l.take p.length=p))) H
theorem Qg(l p:List Nat):(decide (0+(Tx p).length<=(Tx l).length)&&Builtin.Str.subAt (Tx l) (Tx p) 0)=decide (l.take p.length=p):=by
 rw[i6,i6];have e:(Tx l).cps.extract 0 (0+(Tx p).length)=(l.take p.length).toArray:=by
  rw[i6];show l.toArray.extract 0 (0+p.length)=_;simp
 have e2:(((l.take p.length).toArray==p.toArray:Bool))=decide (l.take p.length=p):=by
  by_cases h:l.take p.length=p
  ·rw[h];simp
  ·rw[dP h];exact beq_eq_false_iff_ne.mpr λz=>h (by simpa using congrArg Array.toList z)
 unfold Builtin.Str.subAt;rw[e];show (_&&((l.take p.length).toArray==p.toArray))=_;rw[e2];by_cases h:l.take p.length=p
 ·have:0+p.length<=l.length:=by
   have:=congrArg List.length h;rw[cX] at this;omega
  rw[dN this,Bool.true_and]
 ·rw[dP h,Bool.and_false]
theorem MZ:mX X "str.startswith" Jj:=by
 intro pins s σ H x xs v us Q I rx rv h;obtain⟨l,p,rfl,rfl,q⟩:=h;obtain⟨u,rfl,r1⟩:=jh rv;obtain⟨t',rfl⟩:=r1;obtain⟨t,rfl⟩:=rx;refine call_gives PySem.F.slot_str_startswith (typeIs_str _ _ _) PySem.F.entry_str_startswith (PySem.F.args_str_startswith_2 _ _) (gives_str_startswith (Tx l) (Tx p) t t') ?_;rw[Qg];exact⟨.bl _,H,I,rfl,q⟩
theorem ui{o e:Expr}{to te:TE}{apos cpos:Pos}(ho:E X o to)(he:E X e te)(hbase:attributeBase o "startswith" X.env (eval o X.env)=eval o X.env:=by rfl)
  (hfew:((backTo cpos (starEach [e] X.env)).all (λx=> !x.1)&&(backToKw cpos (keywordEach [] X.env)).all (λx=>x.1.isSome)&&decide (([e]:List Expr).length+([]:List Keyword).length+(if ([]:List Keyword).isEmpty then 0 else 1)<30))=true:=by rfl)
  (hline:(apos.endLine==cpos.line)=true:=by rfl) (hs:starEach [e] X.env=(false,eval e X.env)::starEach [] X.env:=by rfl) (hplain:(backTo cpos (starEach [] X.env)).any (·.1)=false:=by rfl):
  E X (.Call (.Attribute o "startswith" apos) [e] [] cpos) (nB X.K "str" Jj to (ju te jt)):=
 ⟨oU PySem.F.plainAttrs_str PySem.F.slot_str_startswith PySem.F.type_str_startswith MZ ho.h (mj he.h mn hs) hbase hfew hline hs hplain⟩
def Gp:V->List V->Hp->VK->Prop:=λx vs H Q=>∃(l:List Nat) (c:Nat),x=.str (Tx l)/\vs=[.str (Tx [c])]/\Q (.bl (decide (l.getLast? =some c))) H
theorem Oo(l:List Nat)(c:Nat):(decide (0+(Tx [c]).length<=(Tx l).length)&&Builtin.Str.subAt (Tx l) (Tx [c]) ((Tx l).length-(Tx [c]).length))=decide (l.getLast? =some c):=by
 rw[i6,i6];rcases List.eq_nil_or_concat l with rfl | ⟨r,x,rfl⟩
 ·simp
 ·rw[List.concat_eq_append];have e:(Tx (r++[x])).cps.extract ((r++[x]).length - [c].length) ((r++[x]).length - [c].length+(Tx [c]).length)= #[x]:=by
   show (r++[x]).toArray.extract ((r++[x]).length-1) ((r++[x]).length-1+1)= #[x];rw[aZ,b7,Nat.add_sub_cancel];simp
  unfold Builtin.Str.subAt;rw[e];have e2:decide (0+[c].length<=(r++[x]).length)=true:=by simp
  rw[e2,Bool.true_and,List.getLast?_append,List.getLast?_singleton];show (#[x]== #[c])=decide (some x=some c);by_cases h:x=c
  ·subst h;simp
  ·have h2:¬some x=some c:=λz=>h (bF z);rw[dP h2];exact beq_eq_false_iff_ne.mpr λz=>h (by simpa using z)
theorem SF:mX X "str.endswith" Gp:=by
 intro pins s σ H x xs v us Q I rx rv h;obtain⟨l,c,rfl,rfl,q⟩:=h;obtain⟨u,rfl,r1⟩:=jh rv;obtain⟨t',rfl⟩:=r1;obtain⟨t,rfl⟩:=rx;refine call_gives PySem.F.slot_str_endswith (typeIs_str _ _ _) PySem.F.entry_str_endswith (PySem.F.args_str_endswith_2 _ _) (gives_str_endswith (Tx l) (Tx [c]) t t') ?_;rw[Oo];exact⟨.bl _,H,I,rfl,q⟩
theorem Ik{o e:Expr}{to te:TE}{apos cpos:Pos}(ho:E X o to)(he:E X e te)(hbase:attributeBase o "endswith" X.env (eval o X.env)=eval o X.env:=by rfl)
  (hfew:((backTo cpos (starEach [e] X.env)).all (λx=> !x.1)&&(backToKw cpos (keywordEach [] X.env)).all (λx=>x.1.isSome)&&decide (([e]:List Expr).length+([]:List Keyword).length+(if ([]:List Keyword).isEmpty then 0 else 1)<30))=true:=by rfl)
  (hline:(apos.endLine==cpos.line)=true:=by rfl) (hs:starEach [e] X.env=(false,eval e X.env)::starEach [] X.env:=by rfl) (hplain:(backTo cpos (starEach [] X.env)).any (·.1)=false:=by rfl):
  E X (.Call (.Attribute o "endswith" apos) [e] [] cpos) (nB X.K "str" Gp to (ju te jt)):=
 ⟨oU PySem.F.plainAttrs_str PySem.F.slot_str_endswith PySem.F.type_str_endswith SF ho.h (mj he.h mn hs) hbase hfew hline hs hplain⟩
end
end L2
namespace KM
open PySem PySem.Spec PyProof.Rows L2
noncomputable def jZ(t:List Nat):Option Mk:=
 if t=[76] then some (.lst 0) else if t=[76,87] then some .wrk
 else if t.take ([76,45]:List Nat).length=[76,45] then (gJ 1 30 (jz t (some 2) none)).map Mk.lst
 else if t.getLast? =some 87 then (gJ 1 31 (jz t none (some (-1)))).map Mk.nea else none
noncomputable def kD(t:List Nat):Option Int:=(gJ 0 7 t).map λn=>if n=7 then 0 else n
noncomputable def Hc:Option Int->Option Int->Option Mk
 |some w,some m=>some (.nth w m)
 |_,_=>none
noncomputable def lx(t:List Nat):Option Mk:=
 if t.getLast? =some 76 then (kD (jz t none (some (-1)))).map Mk.one
 else match eU 35 t with
  |[a,b]=>Hc (kD a) (gJ 1 5 b)
  |_=>none
noncomputable def jY(wk:Bool)(t:List Nat):Option Mk:=if wk=true then lx t else jZ t
def Hg(c:Cs)(H:Hp)(v:V):Option Mk->Prop
 |none=>v=.non
 |some k=>∃x,v=.ref x/\MkAt c H x k
theorem n5(c:Nat):∀(l:List Nat),∀w∈eU c l,w.length<=l.length
 |[],w,hw=>by simp[eU] at hw;simp[hw]
 |x::r,w,hw=>by
  have ih:=n5 c r;unfold eU at hw;split at hw
  ·rcases bA.mp hw with z | z
   ·subst z;simp
   ·have:=ih w z;simp;omega
  ·split at hw
   ·rename_i h t e;rcases bA.mp hw with z | z
    ·subst z;have:=ih h (by rw[e];simp);simp;omega
    ·have:=ih w (by rw[e];simp[z]);simp;omega
   ·have:w=[x]:=by simpa using hw
    subst this;simp
noncomputable def ii(lo hi:Int)(ws:List (List Nat)):List Int:=ws.filterMap (gH lo hi)
noncomputable def iA(wk:Bool)(lo hi:Int)(ws:List (List Nat)):List Mk:=ws.filterMap λw=>if (gH lo hi w).isSome=true then none else jY wk w
theorem aFK{lo hi:Int}{ws:List (List Nat)}{w:List Nat}{m:Int}(h:gH lo hi w=some m):ii lo hi (ws++[w])=ii lo hi ws++[m]:=by
 unfold ii;rw[dD];simp[h]
theorem Ea{lo hi:Int}{ws:List (List Nat)}{w:List Nat}(h:gH lo hi w=none):ii lo hi (ws++[w])=ii lo hi ws:=by
 unfold ii;rw[dD];simp[h]
theorem Rl{wk:Bool}{lo hi:Int}{ws:List (List Nat)}{w:List Nat}{m:Int}(h:gH lo hi w=some m):iA wk lo hi (ws++[w])=iA wk lo hi ws:=by
 unfold iA;rw[dD];simp[h]
theorem qk{wk:Bool}{lo hi:Int}{ws:List (List Nat)}{w:List Nat}{k:Mk}(h:gH lo hi w=none)(hk:jY wk w=some k):iA wk lo hi (ws++[w])=iA wk lo hi ws++[k]:=by
 unfold iA;rw[dD];simp[h,hk]
theorem J2(wk:Bool)(lo hi:Int)(ws:List (List Nat))(i:Nat):(iA wk lo hi (ws.take i)).length<=(iA wk lo hi ws).length:=((List.take_sublist i ws).filterMap _).length_le
structure hX(wk:Bool)(lo hi:Int)(l:List Nat):Prop where
 len:l.length<=300
 few:(eU 44 l).length<=40
 all:∀w∈eU 44 l,(gH lo hi w).isSome=true∨(jY wk w).isSome=true
 most:(iA wk lo hi (eU 44 l)).length<=20
theorem Ew{xs:List V}(h:xs.length<=40):lZ xs none (some 40)=xs:=by
 unfold lZ;have e1:HT.sIx xs.length 0 none=0:=rfl;have e2:xs.length<=HT.sIx xs.length xs.length (some 40):=by
  show xs.length<=HT.sIx xs.length xs.length (some 40);unfold HT.sIx;simp;omega
 rw[e1,List.drop_zero,Nat.sub_zero];exact dE e2
def CK(H:Hp)(r:V):Option (Int×Int)->Prop
 |none=>r=.non
 |some (a,b)=>∃p,r=.ref p/\H p=some (.tup [.int a,.int b])
theorem aEZ(es:List (Option Int)):(es.map oV).all kI=true:=by
 rw[List.all_map];refine cA.mpr λx _=>?_;cases x<;>rfl
noncomputable def ic(m:Int):Int:=Builtin.bitAnd (Builtin.bitOr m (m / 2^(7:Int).toNat)) 127
noncomputable def kY(wk:Bool)(m:Int):List Mk:=if m=0 then [] else if wk=true then [.wkd (ic m)] else [.num m]
noncomputable def mU(wk:Bool)(lo hi:Int)(l:List Nat):List Mk:=kY wk (gL (ii lo hi (eU 44 l)))++iA wk lo hi (eU 44 l)
def Cl(t:List Nat):Prop:=(44∉t/\32∉t)/\t≠[]/\t.length<=8
instance (t:List Nat):Decidable (Cl t):=by unfold Cl;exact inferInstance
def kq(lo hi:Int)(t:List Nat)(ns:List Int):Prop:=gH lo hi t=some (iK ns)/\Cl t/\(∀n∈ns,lo<=n/\n<=hi)/\ns≠[]/\ns.length<=64
theorem nQ{c:Nat}{a b:List Nat}{d:Nat}(h1:c∉a)(h2:c∉b)(h3:c≠d):c∉a++d::b:=by
 simp only[b9,bA,not_or];exact⟨h1,h3,h2⟩
theorem qG{a b:List Nat}{d:Nat}(ha:(44∉a/\32∉a)/\a≠[]/\a.length<=5)(hb:(44∉b/\32∉b)/\b.length<=2)(h1:44≠d)(h2:32≠d):Cl (a++d::b):=by
 refine⟨⟨nQ ha.1.1 hb.1.1 h1,nQ ha.1.2 hb.1.2 h2⟩,by simp,?_⟩;have:=ha.2.2;have:=hb.2;rw[aZ,bX];omega
theorem lJ{n:Nat}(h:n<100):(44∉num n/\32∉num n)/\num n≠[]/\(num n).length<=2:=⟨⟨jX h (by decide),jX h (by decide)⟩,pW n,(lE n h).2.2.2⟩
theorem n9{a b s lo hi:Int}(h0:0<=a)(h1:b<=63)(hab:a<=b)(hs:0<s)(hl:lo<=a)(hb:b<=hi):(∀n∈iB a b s,lo<=n/\n<=hi)/\iB a b s≠[]/\(iB a b s).length<=64:=by
 refine⟨λn hn=>?_,λe=>?_,?_⟩
 ·have:=(B1 hs).mp hn;omega
 ·have:a∈iB a b s:=(B1 hs).mpr ⟨bB _,hab,by rw[Int.sub_self];rfl⟩;rw[e] at this;cases this
 ·rw[q9,aY,List.length_range,p7 hs,if_pos hab];have:=Int.ediv_le_self (a:=b-a) s ⋯;omega
theorem Gi(a:Int):iB a a 1=[a]:=by
 rw[q9,p7 (by decide),if_pos (bB a),Int.sub_self];show [a+((0:Nat):Int)*1]=[a];simp
theorem i1{lo hi a:Int}(h0:0<=lo)(h1:lo<=a)(h2:a<=hi)(h3:hi<=63):kq lo hi (num a.toNat) [a]:=by
 have ha:a.toNat<100:=⋯;have e:=HN (lo:=lo) (hi:=hi) ha ⋯ ⋯;rw[bZ ⋯] at e;have c:=lJ ha;have r:=n9 (a:=a) (b:=a) (s:=1) (lo:=lo) (hi:=hi) ⋯ ⋯ ⋯ (by decide) h1 h2;have e2:=sI (jX ha (by decide)) e;unfold jC at e2;rw[Gi] at e2 r;exact⟨e2,⟨c.1,c.2.1,by have:=c.2.2;omega⟩,r⟩
theorem i2{lo hi a b:Int}(h0:0<=lo)(h1:lo<=a)(h2:a<=b)(h4:b<=hi)(h3:hi<=63):kq lo hi (num a.toNat++45::num b.toNat) (iB a b 1):=by
 have ha:a.toNat<100:=⋯;have hb:b.toNat<100:=⋯;have e:=Jk (lo:=lo) (hi:=hi) ha hb ⋯ ⋯ ⋯;rw[bZ ⋯,bZ ⋯] at e;have ca:=lJ ha;have cb:=lJ hb;exact⟨sI (nQ (jX ha (by decide)) (jX hb (by decide)) (by decide)) e,qG ⟨ca.1,ca.2.1,by have:=ca.2.2;omega⟩ ⟨cb.1,cb.2.2⟩ (by decide) (by decide),n9 ⋯ ⋯ h2 (by decide) h1 h4⟩
theorem i0{lo hi:Int}(h0:0<=lo)(h1:lo<=hi)(h3:hi<=63):kq lo hi [42] (iB lo hi 1):=
 ⟨sI (by decide) GE,by decide,n9 h0 h3 h1 (by decide) (bB _) (bB _)⟩
theorem i3{lo hi s:Int}(h0:0<=lo)(h1:lo<=hi)(h3:hi<=63)(hs:1<=s/\s<=99):kq lo hi ([42]++47::num s.toNat) (iB lo hi s):=by
 have hs':s.toNat<100:=⋯;have e:=Aa (show 47∉[42] by decide) (GE (lo:=lo) (hi:=hi)) hs' ⋯;rw[if_neg (by decide),bZ ⋯] at e;have cs:=lJ hs';exact⟨e,qG (by decide) ⟨cs.1,cs.2.2⟩ (by decide) (by decide),n9 h0 h3 h1 ⋯ (bB _) (bB _)⟩
theorem i4{lo hi a s:Int}(h0:0<=lo)(h1:lo<=a)(h2:a<=hi)(h3:hi<=63)(hs:1<=s/\s<=99):kq lo hi (num a.toNat++47::num s.toNat) (iB a hi s):=by
 have ha:a.toNat<100:=⋯;have hs':s.toNat<100:=⋯;have e1:=HN (lo:=lo) (hi:=hi) ha ⋯ ⋯;have e:=Aa (jX ha (by decide)) e1 hs' ⋯;rw[if_pos (lE _ ha).1,bZ ⋯,bZ ⋯] at e;have ca:=lJ ha;have cs:=lJ hs';exact⟨e,qG ⟨ca.1,ca.2.1,by have:=ca.2.2;omega⟩ ⟨cs.1,cs.2.2⟩ (by decide) (by decide),n9 ⋯ h3 h2 ⋯ h1 (bB _)⟩
theorem i5{lo hi a b s:Int}(h0:0<=lo)(h1:lo<=a)(h2:a<=b)(h4:b<=hi)(h3:hi<=63)(hs:1<=s/\s<=99):kq lo hi ((num a.toNat++45::num b.toNat)++47::num s.toNat) (iB a b s):=by
 have ha:a.toNat<100:=⋯;have hb:b.toNat<100:=⋯;have hs':s.toNat<100:=⋯;have e1:=Jk (lo:=lo) (hi:=hi) ha hb ⋯ ⋯ ⋯;have e:=Aa (nQ (jX ha (by decide)) (jX hb (by decide)) (by decide)) e1 hs' ⋯;rw[if_neg (by rw[aJB (c:=45) (by simp) (by decide)];exact bG),bZ ⋯,bZ ⋯,bZ ⋯] at e;have ca:=lJ ha;have cb:=lJ hb;have cs:=lJ hs';refine⟨e,qG ⟨⟨nQ ca.1.1 cb.1.1 (by decide),nQ ca.1.2 cb.1.2 (by decide)⟩,by simp,?_⟩ ⟨cs.1,cs.2.2⟩ (by decide) (by decide),n9 ⋯ ⋯ h2 ⋯ h1 h4⟩
 have:=ca.2.2;have:=cb.2.2;rw[aZ,bX];omega
theorem mI{m:Int}(h:0<=m)(i:Nat):0<=ic m/\tb (ic m) i=((tb m i||tb m (7+i))&&decide (i<7)):=by
 have h1:(0:Int)<=m / 2^(7:Int).toNat:=c6 h (by decide);unfold ic;refine⟨m8 (kW h h1) (by decide),?_⟩;rw[mQ (kW h h1) (by decide),mW h h1,nJ h];have e:tb 127 i=decide (i<7):=z3 7 i;rw[e];rfl
theorem JC{ms:List Int}(h:∀m∈ms,0<=m):gL ms=0↔∀m∈ms,m=0:=by
 constructor
 ·intro e m hm;refine ki (h m hm) (bB 0) λi=>?_;have z:=lW h i;rw[e,ji] at z;have:=cV.mp z.symm m hm;rw[ji];simpa using this
 ·intro e;refine ki (mv h) (bB 0) λi=>?_;rw[lW h,ji,cV];intro m hm;rw[e m hm,ji];exact bG
theorem F6{ms:List Int}(h:∀m∈ms,0<=m):ic (gL ms)=gL (ms.map ic):=by
 have h':∀m∈ms.map ic,0<=m:=λm hm=>by
  obtain⟨z,hz,rfl⟩:=bI.mp hm;exact (mI (h z hz) 0).1
 refine ki (mI (mv h) 0).1 (mv h') λi=>?_;rw[(mI (mv h) i).2,lW h,lW h,lW h',cN,cL];simp only[bV,Bool.or_eq_true,List.any_eq_true,dO,Function.comp];constructor
 ·rintro⟨⟨m,hm,e⟩ | ⟨m,hm,e⟩,hi⟩
  ·exact⟨m,hm,by rw[(mI (h m hm) i).2,e,dN hi];rfl⟩
  ·exact⟨m,hm,by rw[(mI (h m hm) i).2,e,dN hi,Bool.or_true];rfl⟩
 ·rintro⟨m,hm,e⟩;rw[(mI (h m hm) i).2,bV,Bool.or_eq_true,dO] at e;rcases e with ⟨e | e,hi⟩
  ·exact⟨.inl ⟨m,hm,e⟩,hi⟩
  ·exact⟨.inr ⟨m,hm,e⟩,hi⟩
theorem HQ{m:Int}(h0:0<m)(h1:m<=255):ic m≠0/\0<=ic m/\ic m<=127:=by
 have all:∀n:Nat,n<256->0<n->ic (n:Int)≠0/\0<=ic (n:Int)/\ic (n:Int)<=127:=by decide +kernel
 have e:m=((m.toNat:Nat):Int):=⋯;rw[e];exact all m.toNat ⋯ ⋯
def nR(b:Bool)(t:List Nat):Mk->Prop
 |.num m=>b=false/\gH 1 31 t=some m/\0<m
 |.wkd m=>b=true/\∃M,gH 0 7 t=some M/\(0<M/\M<=255)/\m=ic M
 |.nil=>False
 |k=>gH (if b=true then 0 else 1) (if b=true then 7 else 31) t=none/\jY b t=some k
theorem GM:nR false [76] (.lst 0)/\Cl [76]:=by
 refine⟨⟨?_,?_⟩,by decide⟩<;>decide +kernel
theorem Gz:nR false [76,87] .wrk/\Cl [76,87]:=by
 refine⟨⟨?_,?_⟩,by decide⟩<;>decide +kernel
theorem Fb:∀n:Nat,n<31->1<=n->(gH 1 31 ([76,45]++num n)=none/\jY false ([76,45]++num n)=some (.lst n))/\Cl ([76,45]++num n):=by decide +kernel
theorem ME:∀n:Nat,n<32->1<=n->(gH 1 31 (num n++[87])=none/\jY false (num n++[87])=some (.nea n))/\Cl (num n++[87]):=by decide +kernel
theorem RP:∀n:Nat,n<8->(gH 0 7 (num n++[76])=none/\jY true (num n++[76])=some (.one ((n:Int)%7)))/\Cl (num n++[76]):=by decide +kernel
theorem LQ:∀n:Nat,n<8->∀m:Nat,m<6->1<=m->(gH 0 7 (num n++[35]++num m)=none/\jY true (num n++[35]++num m)=some (.nth ((n:Int)%7) m))/\Cl (num n++[35]++num m):=by decide +kernel
theorem Jl{ns:List Int}(h:ns≠[])(hn:∀n∈ns,0<=n):0<iK ns:=by
 have h0:=oR ns;rcases Int.lt_or_eq_of_le h0 with h1 | h1
 ·exact h1
 ·cases ns with
  |nil=>exact absurd rfl h
  |cons n r=>
   have z:=rT (n::r) n.toNat;rw[←h1,ji,cG] at z;simp at z
theorem GF{ns:List Int}{n:Nat}(hn:∀z∈ns,0<=z/\z<(n:Int)):iK ns<2^n:=by
 have e:iK ns=kh (tb (iK ns)) n:=by
  refine ki (oR _) (qt _ _) λi=>?_;rw[qY];by_cases c:i<n
  ·rw[dN c,Bool.true_and]
  ·rw[dP c,Bool.false_and,rT,cV];intro z hz;have:=hn z hz;have:¬z.toNat=i:=⋯;simpa using this
 rw[e];exact xS _ _
end KM
namespace L2
open PySem PySem.Spec PyProof.Rows PySem.SeqAt
section
variable{X:Cx}
theorem me:iy X (.builtin "isinstance") (λxs H Q=>∃(v:V) (t:Value) (C':Addr) (b:Bool),xs=[v,.ref C']/\ja X.K H v t/\PySem.W.kitOne X.K t (.ref C')=some b/\Q (.bl b) H):=by
 refine⟨λpins s σ H xs us Q I r h=>?_⟩;obtain⟨v,t,C',b,rfl,ty,e,q⟩:=h;obtain⟨u,w',rfl,r1,r2⟩:=m7 r;cases r2;exact azQ I r1 ty e λtk=>⟨.bl b,H,I.tok _,rfl,q⟩
structure IsC(K:FG)(C:Addr):Prop where
 ha:PySem.W.findIn K (.ref C) "__class__"=some (some (.builtin "object.__class__"))
 hn:PySem.W.specialIn K (.builtin "object.__class__") "__get__"=some (some (.builtin "getset_descriptor.__get__"))
 htk:PySem.W.takesIn K (.builtin "object.__class__")=some true
 hm:PySem.W.mroIn K C (.type "object")=some true
theorem IsC.ty{K:FG}{C a dx:Addr}{H:Hp}{fs:List (Str×V)}(i:IsC K C)(c:Cls K C)(h:H a=some (.ins C dx fs)):ja K H (.ref a) (.ref C):=.ins h c i.ha i.hn i.htk i.hm
def vn(K:FG):R2:=λx y H Q=>∃(a b:Addr) (bs cs:List Bool),x=.ref a/\y=.ref b/\SqL K H a (bs.map V.bl)/\SqL K H b (cs.map V.bl)/\Q (.bl (!decide (bs=cs))) H
theorem B9(hu:X.A.units+64<cLine):gE X (compareOp .NotEq) (vn X.K):=by
 refine⟨λpins s σ H x y v u Q I rx ry h=>?_⟩;obtain⟨a,b,bs,cs,rfl,rfl,ha,hb,q⟩:=h;cases rx;cases ry;obtain⟨its,rv,pl,_⟩:=I.list ha;obtain⟨its',rv',pl',_⟩:=I.list hb;obtain⟨o,ho,hc,n,hd⟩:=pl.isList;obtain⟨o',ho',hc',n',hd'⟩:=pl'.isList;exact ne_dataH_same (da:=pH bs) (db:=pH cs) (Reads.list ho hc hd (by simpa using oS rv)) (Reads.list ho' hc' hd' (by simpa using oS rv')) (qy _) (qy _) hu (by show noMix (.list _) (.list _)=true;simp only[noMix];exact DH bs cs)
  (by show EP X pins σ Q (.bool (!same (.list _) (.list _))) s;simp only[same];rw[DM];exact⟨.bl _,H,I,rfl,q⟩)
end
end L2
namespace KM
open PySem PySem.Spec PyProof.Rows L2
noncomputable def Mk.pl:Mk->Option Int
 |.num m=>some m
 |.wkd m=>some m
 |_=>none
noncomputable def kK(ks:List Mk):List Int:=ks.filterMap Mk.pl
noncomputable def nA(ks:List Mk):List Mk:=ks.filter λk=>k.pl.isNone
noncomputable def qD(b:Bool)(M:Int):List Mk:=if M=0 then [] else if b=true then [.wkd M] else [.num M]
noncomputable def oH(b:Bool)(ks:List Mk):List Mk:=qD b (gL (kK ks))++nA ks
theorem XG{b:Bool}{ks:List Mk}(h:∀k∈ks,k.sp=true/\k.wk=b/\k.ok):∀m∈kK ks,0<=m/\(b=true->m<=127):=by
 intro m hm;obtain⟨k,hk,e⟩:=List.mem_filterMap.mp hm;have:=h k hk;cases k with
 |num z=>cases e;exact⟨this.2.2,λhb=>by rw[←this.2.1] at hb;cases hb⟩
 |wkd z=>cases e;exact⟨this.2.2.1,λ_=>this.2.2.2⟩
 |lst z=>cases e
 |nea z=>cases e
 |wrk=>cases e
 |nth z y=>cases e
 |one z=>cases e
 |nil=>cases e
theorem Z4{ms:List Int}{n:Nat}(h:∀m∈ms,0<=m/\m<2^n):gL ms<2^n:=by
 have h0:∀m∈ms,0<=m:=λm hm=>(h m hm).1;have e:gL ms=kh (tb (gL ms)) n:=by
  refine ki (mv h0) (qt _ _) λi=>?_;rw[qY];by_cases c:i<n
  ·rw[dN c,Bool.true_and]
  ·rw[dP c,Bool.false_and,lW h0,cV];intro m hm;rw[nU (h m hm).2 ⋯];exact bG
 rw[e];exact xS _ _
theorem Q4{b:Bool}{ks:List Mk}(h:∀k∈ks,k.sp=true/\k.wk=b/\k.ok):∀k∈qD b (gL (kK ks)),k.sp=true/\k.wk=b/\k.ok:=by
 have hp:=XG h;have h0:0<=gL (kK ks):=mv λm hm=>(hp m hm).1;intro k hk;unfold qD at hk;split at hk
 ·cases hk
 ·split at hk
  ·rename_i hb;rw[bW.mp hk,hb];have e:(2:Int)^7=128:=by decide
   have:=Z4 (n:=7) (ms:=kK ks) λm hm=>⟨(hp m hm).1,by have:=(hp m hm).2 hb;omega⟩;exact⟨rfl,rfl,h0,⋯⟩
  ·rename_i hb;rw[bW.mp hk];exact⟨rfl,by cases b with | true=>exact absurd rfl hb | false=>rfl,h0⟩
abbrev Ws(b:Bool):List (List Nat)->List Mk->Prop:=Paired λw k=>Cl w/\nR b w k
noncomputable def iC(b:Bool):Int:=if b=true then 0 else 1
noncomputable def iz(b:Bool):Int:=if b=true then 7 else 31
theorem XH(k:Mk)(ks:List Mk):kK (k::ks)=(match k.pl with | some m=>m::kK ks | none=>kK ks)/\nA (k::ks)=(match k.pl with | some _=>nA ks | none=>k::nA ks):=by
 unfold kK nA;rw[cS,List.filter_cons];cases k.pl<;>exact⟨rfl,rfl⟩
theorem aFC(b:Bool)(lo hi:Int)(w:List Nat)(ws:List (List Nat)):ii lo hi (w::ws)=(match gH lo hi w with | some m=>m::ii lo hi ws | none=>ii lo hi ws)/\iA b lo hi (w::ws)=(match gH lo hi w with | some _=>iA b lo hi ws | none=>match jY b w with | some k=>k::iA b lo hi ws | none=>iA b lo hi ws):=by
 unfold ii iA;rw[cS,cS];cases gH lo hi w with
 |some m=>exact⟨rfl,rfl⟩
 |none=>exact⟨rfl,by cases jY b w<;>rfl⟩
def oj(b:Bool)(ws:List (List Nat))(ks:List Mk):Prop:=iA b (iC b) (iz b) ws=nA ks/\kK ks=(ii (iC b) (iz b) ws).map (λm=>if b=true then ic m else m)/\(∀m∈ii (iC b) (iz b) ws,0<m/\(b=true->m<=255))/\∀w∈ws,(gH (iC b) (iz b) w).isSome=true∨(jY b w).isSome=true
theorem uQ(b:Bool):∀{ws:List (List Nat)} {ks:List Mk},Ws b ws ks->oj b ws ks
 |_,_,.nil=>⟨rfl,rfl,λm hm=>(nomatch hm),λw hw=>(nomatch hw)⟩
 |w::ws,k::ks,.cons r t=>by
  obtain⟨i1,i2,i3,i4⟩:=uQ b t;have c1:=XH k ks;have c2:=aFC b (iC b) (iz b) w ws;have plain:∀(m M:Int),k.pl=some m->gH (iC b) (iz b) w=some M->(m=if b=true then ic M else M)->(0<M/\(b=true->M<=255))->oj b (w::ws) (k::ks):=λm M e1 e2 e3 e4=>by
   unfold oj;rw[e1] at c1;rw[e2] at c2;rw[c1.1,c1.2,c2.1,c2.2];refine⟨i1,by rw[bM,←e3,←i2],λz hz=>?_,λv hv=>?_⟩
   ·rcases bA.mp hz with rfl | hz
    ·exact e4
    ·exact i3 z hz
   ·rcases bA.mp hv with rfl | hv
    ·exact .inl (by rw[e2];rfl)
    ·exact i4 v hv
  have mark:k.pl=none->gH (iC b) (iz b) w=none->jY b w=some k->oj b (w::ws) (k::ks):=λe1 e2 e3=>by
   unfold oj;rw[e1] at c1;rw[e2,e3] at c2;rw[c1.1,c1.2,c2.1,c2.2];refine⟨by rw[i1],i2,i3,λv hv=>?_⟩;rcases bA.mp hv with rfl | hv
   ·exact .inr (by rw[e3];rfl)
   ·exact i4 v hv
  cases k with
  |num m=>
   obtain⟨_,hb,hr,h0⟩:=r;subst hb;exact plain m m rfl hr rfl ⟨h0,λz=>nomatch z⟩
  |wkd m=>
   obtain⟨_,hb,M,hr,h0,hm⟩:=r;subst hb;exact plain m M rfl hr hm ⟨h0.1,λ_=>h0.2⟩
  |lst z=>exact mark rfl r.2.1 r.2.2
  |nea z=>exact mark rfl r.2.1 r.2.2
  |wrk=>exact mark rfl r.2.1 r.2.2
  |nth z y=>exact mark rfl r.2.1 r.2.2
  |one z=>exact mark rfl r.2.1 r.2.2
  |nil=>exact r.2.elim
theorem ZR{b:Bool}{ws:List (List Nat)}{ks:List Mk}{l:List Nat}(h:Ws b ws ks)(hl:eU 44 l=ws):mU b (iC b) (iz b) l=oH b ks:=by
 obtain⟨i1,i2,i3,_⟩:=uQ b h;have hz:∀m∈ii (iC b) (iz b) ws,0<=m:=λm hm=>b8 (i3 m hm).1;unfold mU oH;rw[hl,i1,i2];congr 1;cases b with
 |false=>
  have e:(ii (iC false) (iz false) ws).map (λm=>if false=true then ic m else m)=ii (iC false) (iz false) ws:=List.map_id'' (λ_=>rfl) _;rw[e];rfl
 |true=>
  have e:gL ((ii (iC true) (iz true) ws).map (λm=>if true=true then ic m else m))=ic (gL (ii (iC true) (iz true) ws)):=(F6 hz).symm;rw[e];unfold kY qD;by_cases c:gL (ii (iC true) (iz true) ws)=0
  ·rw[if_pos c,c];rfl
  ·have c2:¬ic (gL (ii (iC true) (iz true) ws))=0:=λz=>c (by
    rw[F6 hz] at z;have h0:∀m∈(ii (iC true) (iz true) ws).map ic,0<=m:=λm hm=>by
     obtain⟨y,hy,rfl⟩:=bI.mp hm;exact (mI (hz y hy) 0).1
    rw[JC hz];intro m hm;have:=(JC h0).mp z (ic m) (bI.mpr ⟨m,hm,rfl⟩);exact absurd this (HQ (i3 m hm).1 ((i3 m hm).2 rfl)).1)
   rw[if_neg c,if_neg c2];rfl
theorem none_of{H H':Hp}(s:Same H H'){p:Addr}(h:H' p=none):H p=none:=by
 cases e:H p with
 |none=>rfl
 |some o=>rw[s _ _ e] at h;cases h
theorem wJ:∀(ws:List (List Nat)),(∀w∈ws,w.length<=8)->(gT 44 ws).length<=9*ws.length
 |[],_=>bK _
 |[w],h=>by
  have:=h w (bS ..);show w.length<=9;omega
 |w::v::ws,h=>by
  have ih:=wJ (v::ws) λz hz=>h z (bP _ hz);have:=h w (bS ..);show (w++44::gT 44 (v::ws)).length<=_;rw[aZ,bX,bX];omega
theorem Ws.cl{b:Bool}:∀{ws:List (List Nat)} {ks:List Mk},Ws b ws ks->∀w∈ws,Cl w
 |_,_,.nil,w,hw=>nomatch hw
 |_,_,.cons r t,w,hw=>by
  rcases bA.mp hw with rfl | hw
  ·exact r.1
  ·exact Ws.cl t w hw
theorem Kf{b:Bool}{ws:List (List Nat)}{ks:List Mk}(h:Ws b ws ks)(hne:ws≠[])(hn:ws.length<=20):eU 44 (gT 44 ws)=ws/\hX b (iC b) (iz b) (gT 44 ws):=by
 have hs:=p4 44 ws hne λw hw=>(h.cl w hw).1.1;have hl:=wJ ws λw hw=>(h.cl w hw).2.2;refine⟨hs,⋯,by rw[hs];omega,?_,?_⟩
 ·rw[hs];exact (uQ b h).2.2.2
 ·rw[hs];exact bR (List.length_filterMap_le ..) hn
theorem Paired.at{α β:Type}{F:α->β->Prop}:∀{l:List α} {r:List β} {i:Nat} {a:α},Paired F l r->l[i]? =some a->∃b,r[i]? =some b/\F a b
 |_,_,_,_,.nil,e=>by simp at e
 |_,_,0,_,.cons h _,e=>by
  have:=bF e;subst this;exact⟨(),h⟩
 |_,_,i+1,_,.cons _ t,e=>Paired.at (i:=i) t e
noncomputable def rt(x:Nat×Nat):List Nat:=if x.1=x.2 then num x.1 else num x.1++45::num x.2
theorem Xq{x:Int}(h0:0<=x){n:Nat}(h:∀i,tb x i=true->i<n):x<2^n:=by
 have e:kh (tb x) n=x:=ki (qt _ _) h0 λi=>by
  rw[qY];cases c:tb x i
  ·simp
  ·simp[h i c]
 rw[←e];exact xS _ _
noncomputable def nX(b:Bool)(x:Nat×Nat):Mk:=if b=true then .wkd (ic (jC x.1 x.2 1)) else .num (jC x.1 x.2 1)
theorem G9{lo hi:Int}{x:Nat×Nat}(h0:0<=lo)(h1:lo<=x.1)(h2:x.1<=x.2)(h3:(x.2:Int)<=hi)(h4:hi<=63):kq lo hi (rt x) (iB x.1 x.2 1):=by
 unfold rt;by_cases c:x.1=x.2
 ·rw[if_pos c,←c,Gi];exact i1 (a:=(x.1:Int)) h0 h1 ⋯ h4
 ·rw[if_neg c];exact i2 (a:=(x.1:Int)) (b:=(x.2:Int)) h0 h1 ⋯ h3 h4
theorem qH{b:Bool}{x:Nat×Nat}(h1:iC b<=x.1)(h2:x.1<=x.2)(h3:(x.2:Int)<=iz b):Cl (rt x)/\nR b (rt x) (nX b x):=by
 cases b with
 |true=>
  have t:=G9 (lo:=0) (hi:=7) (x:=x) (by decide) h1 h2 h3 (by decide);have hin:=t.2.2.1;have hlt:=GF (n:=8) (ns:=iB x.1 x.2 1) (λz hz=>by have:=hin z hz;omega);have e256:(2:Int)^8=256:=by decide
  exact⟨t.2.1,rfl,_,t.1,⟨Jl t.2.2.2.1 (λn hn=>(hin n hn).1),⋯⟩,rfl⟩
 |false=>
  have t:=G9 (lo:=1) (hi:=31) (x:=x) (by decide) h1 h2 h3 (by decide);exact⟨t.2.1,rfl,t.1,Jl t.2.2.2.1 (λn hn=>by have:=(t.2.2.1 n hn).1;omega)⟩
theorem Iq{α:Type}{p q:α->Bool}:∀{l:List α},(∀x∈l,p x=q x)->l.any p=l.any q
 |[],_=>rfl
 |x::r,h=>by rw[cG,cG,h x (bS ..),Iq λy hy=>h y (bP _ hy)]
theorem EQ{b:Bool}{ks:List Mk}(h:∀k∈ks,k.sp=true/\k.wk=b/\k.ok):∀k∈oH b ks,k.sp=true/\k.wk=b/\k.ok:=λk hk=>by
 rcases b9.mp hk with z | z
 ·exact Q4 h k z
 ·exact h k ((List.mem_filter.mp z).1)
end KM
namespace L2
open PySem PySem.Spec PyProof.Rows
section
variable{X:Cx}{f:Addr}{k k':Nat}{ps:List Str}{sp:Sp}{x y e:Expr}{es:List Expr}{t:TA}{tv:TE}{p pos:Pos}
end
section
variable{X:Cx}{C:Addr}{m:Str}{k k':Nat}{ps:List Str}{sp:Sp}{o:Expr}{ta:TE}{apos pos:Pos}
theorem Gs{pl:Sem Bool}(c:Cls X.K C)(D:fZ X.prog X.w X.K X.mg X.base C m k ps sp)(hr:Room k' X.A)(ho:E X o ta)(hk:k<=k':=by decide)
  (ht:eval (.Call (.Attribute o m apos) [] [] pos) X.env=(do
   let ov ←eval o X.env
   standAt apos.atName
   let (f,first) ←holding [ov] (getMethod ov m pl)
   callWith pos f first (backTo pos (starEach [] X.env)) (backToKw pos (keywordEach [] X.env))):=by rfl):E X (.Call (.Attribute o m apos) [] [] pos) (oi C m sp [] E0 ta jt):=by
 obtain⟨f,fd,F,hb,hm⟩:=D.ex;exact⟨Rr ho.h c hm F (hr.mono hk) hb .nil ng ht⟩
variable{body:List Stmt}{tb:TS}{h:ExceptHandler}{hs:List ExceptHandler}
theorem Mn(hb:Ss X.nox body tb):S X (.Try body (h::hs) [] [] pos) tb:=by
 refine⟨λpins s σ H D I hw=>?_⟩;refine wpAny_Try_except (dH (hb.h pins s σ H D (I.wish _) hw) (λf s1 q=>?_) λe s1 hx=>False.elim hx);cases f with
 |next=>exact wpAny_execs_nil q.unwish
 |ret v=>exact q.unwish
 |brk=>exact q.unwish
 |cont=>exact q.unwish
end
section
variable{js:List Nat}{σ:St}{tt:TT}{te:TE}{Q:VK}{H1:Hp}
theorem OS{K K':FG}{a:Addr}{xs:List V}(R:Addr->Nat->List V->Hp->Prop)(hm:∀D i l H l',R D i l H->R D i l (upd H D (.lst l')))(hS:∀D i l H H',Same H H'->R D i l H->R D i l H')(hn:xs.length<=sizeLine)(h0:∀D,H1 D=none->R D 0 [] H1)(hq:SqL K H1 a xs)
  (hs:∀(i:Nat) (x:V) (l:List V) (D:Addr) (H2:Hp) (E:V->Hp->Prop) (F:Hp->Prop),xs[i]? =some x->R D i l H2->H1 D=none->Same H1 H2->H2 D=some (.lst l)->(∀y H5,Same H2 H5->R D (i+1) (l++[y]) H5->E y H5)->(∀H4,Same H2 H4->R D (i+1) l H4->F H4)->
   tt (some (.int i)::some x::gZ js σ) H2 λb H4=>if b=true then te (some (.int i)::some x::gZ js σ) H4 E else F H4)
  (hd:∀(D:Addr) (H2:Hp) (l:List V),R D xs.length l H2->H1 D=none->Same H1 H2->H2 D=some (.lst l)->Q (.ref D) H2):
  DD (m6 K a) 2 js (qE K' 2 (qr (jy 0) (qr (jy 1) tX))) σ tt te Q H1:=by
 intro D hD;refine⟨λi m H2=>m=xs.length-i/\i<=xs.length/\Same H1 H2/\∃l,H2 D=some (.lst l)/\l.length<=i/\R D i l H2,⟨xs.length,by simp,bK _,eE hD _,[],dY,aX _,hm _ _ _ _ _ (h0 D hD)⟩,?_⟩;rintro i m H2 ⟨rfl,hi,s2,l,h2,hll,hR⟩;by_cases hlt:i<xs.length
 ·refine .inr ⟨⟨xs,xs[i],s2.seq hq,by simp[hlt]⟩,λv H3 y τ hτ=>?_⟩;obtain⟨T,rfl,hT,ev⟩:=y;obtain⟨x,hx,rfl⟩:=ev xs (s2.seq hq);have sT:=eE hT (.tup [.int i,x]);have s3:=s2.trans sT;have h3:=sT _ _ h2;obtain⟨t0,t1,rfl⟩:∃t0 t1,τ=[t0,t1]:=by
   match τ,hτ with
   |[a,b],_=>exact⟨a,b,rfl⟩
  have h:=hs i x l D _ (λy H5=>∃ys,H5 D=some (.lst ys)/\ys.length<sizeLine/\∃m',m'<xs.length-i/\(m'=xs.length-(i+1)/\i+1<=xs.length/\Same H1 (upd H5 D (.lst (ys++[y])))/\∃l,(upd H5 D (.lst (ys++[y]))) D=some (.lst l)/\l.length<=i+1/\R D (i+1) l (upd H5 D (.lst (ys++[y]))))) (λH4=>∃m',m'<xs.length-i/\(m'=xs.length-(i+1)/\i+1<=xs.length/\Same H1 H4/\∃l,H4 D=some (.lst l)/\l.length<=i+1/\R D (i+1) l H4)) hx (hS _ _ _ _ _ sT hR) hD s3 h3
   (λz H5 s5 r5=>by
    refine⟨l,s5 _ _ h3,cH hll (bC hlt hn),xs.length-(i+1),⋯,rfl,hlt,λb o hb=>?_,l++[z],dY,by rw[aZ,b7];omega,hm _ _ _ _ _ r5⟩;rw[eQ (gR hb hD)];exact s5 _ _ (s3 _ _ hb))
   (λH4 s4 r4=>⟨xs.length-(i+1),⋯,rfl,hlt,s3.trans s4,l,s4 _ _ h3,⋯,r4⟩)
  exact⟨T,[.int i,x],rfl,SqT.of dY,rfl,.int i,[x],rfl,x,[],rfl,rfl,⟨[some (.int i),some x],rfl,rfl⟩,h⟩
 ·have e:i=xs.length:=⋯;subst e;exact .inl ⟨⟨xs,s2.seq hq,rfl⟩,hd D H2 l hR hD s2 h2⟩
end
def KD(K:FG)(a:Addr)(kvs:List (Int×V)):Prop:=
 ∃(es:Array DictEntry) (ep:Nat) (vs:List (fA×Value)),K.lookup a=some ⟨.type "dict",none,.dict es ep,#[]⟩/\KV (kvs.map λx=>((Sum.inl x.1:fA),x.2)) vs/\(vs.map (·.1)).Nodup/\∀(P:Program) (w:World),KeysOf (i7 P w) es/\PySem.Pairs (i7 P w) es.toList vs
def Mz(K:FG)(td ty:TE):TE:=λσ H Q=>td σ H λx H1=>ty σ H1 λy H2=>∃a kvs k v,x=.ref a/\KD K a kvs/\y=.int k/\kvs.lookup k=some v/\Q v H2
theorem Fc{k:Int}{v:V}:∀{kvs:List (Int×V)} {vs:List (fA×Value)},KV (kvs.map λx=>((Sum.inl x.1:fA),x.2)) vs->kvs.lookup k=some v->∃w',valueAt vs (Sum.inl k:fA)=some w'/\RelV v w'
 |[],_,_,h=>by cases h
 |(k0,v0)::r,_,.cons (b:=(k1,w1)) h t,hl=>by
  obtain⟨e1,e2⟩:=h;have e1:(Sum.inl k0:fA)=k1:=e1;subst e1;rw[cZ] at hl;unfold valueAt;by_cases c:k=k0
  ·subst c;rw[show (k==k)=true from beq_self_eq_true k] at hl;cases hl;refine⟨w1,?_,e2⟩;rw[List.find?_cons_of_pos (by simp)];rfl
  ·rw[show (k==k0)=false from beq_false_of_ne c] at hl;obtain⟨w',h1,h2⟩:=Fc t hl;refine⟨w',?_,h2⟩;rw[List.find?_cons_of_neg (by simp;exact λz=>c z.symm)];exact h1
section
variable{X:Cx}{o i:Expr}{td ty:TE}{pos:Pos}
theorem uw(ho:E X o td)(hi:E X i ty)(hs:qe i:=by intro _ _;rfl):E X (.Subscript o i pos) (Mz X.K td ty):=by
 refine⟨λpins s σ H Q I h=>?_⟩;refine DU PySem.F.slot_dict_getitem.lookup hs (eT (ho.h pins s σ H _ I h) λu s1 ⟨x,H1,I1,rx,q1⟩=>eT (hi.h pins s1 σ H1 _ I1 q1) λiv s2 ⟨y,H2,I2,ry,a,kvs,k,v,ex,hk,ey,l,q2⟩=>?_);subst ex;subst ey;obtain rfl:u=Value.ref a:=rx;obtain⟨es,ep,vs,lk,kv,nd,kp⟩:=hk;obtain⟨k1,k2⟩:=kp X.prog X.w;have dd:s2.heap.DictOf (i7 X.prog X.w) a vs:=⟨_,es,ep,I2.kIn _ _ lk,⟨rfl,rfl,rfl⟩,rfl,k1,k2,nd⟩
 obtain⟨w',hw,rw'⟩:=Fc kv l;exact⟨dd.typeIs,wpAny_getItem_of (nk (k:=Sum.inl k) ry) dd.mapOf hw ⟨v,H2,I2.tok _,rw',q2⟩⟩
end
end L2
namespace KM
open PySem PySem.Spec PyProof.Rows L2
theorem RT{ks:List Mk}{l f:Int}(h:Lf l f)(o:∀k∈ks,k.ok):0<=lK ks l f:=mv λm hm=>by
 obtain⟨k,hk,rfl⟩:=bI.mp hm;exact KS (o k hk) h
def DV(c:Cs)(H:Hp)(v:V):Ko->Prop
 |none=>v=.non
 |some ks=>∃p qs,v=.ref p/\H p=some (.lst (qs.map V.ref))/\Ft (MkAt c H) qs ks/\∀k∈ks,k.ok
theorem DV.keep{c:Cs}{H H':Hp}(s:Same H H'){v:V}:∀{ko:Ko},DV c H v ko->DV c H' v ko
 |none,h=>h
 |some _,⟨p,qs,e,h1,h2,h3⟩=>⟨p,qs,e,s _ _ h1,h2.keepM s.keep,h3⟩
noncomputable def jP(ko:Ko)(a l f:Int):Int:=match ko with
 |none=>a
 |some ks=>Builtin.bitOr a (lK ks l f)
noncomputable def iQ(kd kw:Ko)(l f:Int):Int:=if kd.isNone=true/\kw.isNone=true then 2*2^l.toNat-2 else jP kw (jP kd 0 l f) l f
def DT(b:Bool)(t:List Nat)(ko:Ko):Prop:=(32∉t/\t≠[])/\hX b (iC b) (iz b) t/\match ko with
 |none=>t=[42]
 |some ks=>t≠[42]/\(∀k∈ks,k.sp=true/\k.wk=b/\k.ok)/\mU b (iC b) (iz b) t=oH b ks
noncomputable def gO(b:Bool):Ko->Ko
 |none=>none
 |some ks=>some (oH b ks)
theorem zR{c d:Nat}(hcd:c≠d):∀{ws:List (List Nat)},(∀w∈ws,c∉w)->c∉gT d ws
 |[],_=>c9
 |[w],h=>h w (bS ..)
 |w::v::ws,h=>by
  show c∉w++d::gT d (v::ws);rw[b9,bA,not_or,not_or];exact⟨h w (bS ..),hcd,zR hcd λz hz=>h z (bP _ hz)⟩
theorem HD:∀{ws:List (List Nat)},ws≠[]->(∀w∈ws,w≠[])->∀d,gT d ws≠[]
 |[],h,_,_=>absurd rfl h
 |[w],_,h,_=>h w (bS ..)
 |w::v::ws,_,h,d=>λe=>by
  have e:w++d::gT d (v::ws)=[]:=e;rw[List.append_eq_nil_iff] at e;cases e.2
theorem DX{b:Bool}{ws:List (List Nat)}{ks:List Mk}(h:Ws b ws ks)(hne:ws≠[])(hn:ws.length<=20)(hs:∀w∈ws,w≠[42])(ho:∀k∈ks,k.sp=true/\k.wk=b/\k.ok):DT b (gT 44 ws) (some ks):=by
 have w:=Kf h hne hn;refine⟨⟨zR (by decide) λx hx=>(h.cl x hx).1.2,HD hne (λx hx=>(h.cl x hx).2.1) 44⟩,w.2,λe=>?_,ho,ZR h w.1⟩;have e1:=w.1;rw[e] at e1;have e2:eU 44 [42]=[[42]]:=rfl;rw[e2] at e1;exact hs [42] (by rw[←e1];exact bW.mpr rfl) rfl
theorem lQ(b:Bool):DT b [42] none:=by
 refine⟨by decide,?_,rfl⟩;have c:Cl [42]/\nR b [42] (if b=true then .wkd 127 else .num 4294967294):=by
  cases b with
  |true=>exact⟨by decide,rfl,255,by decide +kernel,by decide,by decide +kernel⟩
  |false=>exact⟨by decide,rfl,by decide +kernel,by decide⟩
 exact (Kf (.cons c .nil:Ws b [[42]] _) (cD _ _) (by show 1<=20;decide)).2
structure FT(lo hi:Int)(t:List Nat)(m:Int):Prop where
 ok:Hz lo hi t
 len:t.length<=300
 is:gL (lb lo hi t)=m
 sp:32∉t
 ne:t≠[]
 nn:0<=m
theorem Kh{lo hi:Int}{ws:List (List Nat)}{nss:List (List Int)}(h:Paired (kq lo hi) ws nss)(hne:ws≠[])(hn:ws.length<=20):FT lo hi (gT 44 ws) (iK nss.flatten):=by
 have all:∀{ws:List (List Nat)} {nss:List (List Int)},Paired (kq lo hi) ws nss->(∀w∈ws,Cl w/\(gH lo hi w).isSome=true)/\(ws.map λw=>(gH lo hi w).getD 0)=nss.map iK:=by
  intro ws nss h;induction h with
  |nil=>exact⟨λw hw=>(nomatch hw),rfl⟩
  |cons r t ih=>
   refine⟨λw hw=>?_,?_⟩
   ·rcases bA.mp hw with z | z
    ·subst z;exact⟨r.2.1,by rw[r.1];rfl⟩
    ·exact ih.1 w z
   ·rw[bM,bM,ih.2,r.1];rfl
 have a:=all h;have hs:=p4 44 ws hne λw hw=>(a.1 w hw).1.1.1;have hl:=wJ ws λw hw=>(a.1 w hw).1.2.2;refine⟨⟨by rw[hs];omega,by rw[hs];exact λw hw=>(a.1 w hw).2⟩,⋯,?_,zR (by decide) λx hx=>(a.1 x hx).1.1.2,HD hne (λx hx=>(a.1 x hx).1.2.1) 44,oR _⟩;unfold lb;rw[hs,a.2];have nn:∀m∈nss.map iK,0<=m:=λm hm=>by
  obtain⟨z,_,rfl⟩:=bI.mp hm;exact oR _
 refine ki (mv nn) (oR _) λi=>?_;rw[lW nn,rT,cN,List.any_flatten];exact Iq λz _=>rT z i
end KM
namespace L2
open PySem PySem.Spec PyProof.Rows
section
open PySem.W Builtin Builtin.ObjectAttr
variable{prog:Program}{w:World}{A:Around}{E:Value->Shared->Prop}{s:Shared}{K:FG}{x C:Addr}{f:Str}{v:Value}{o:Obj}{vs:Array Value}
variable{X:Cx}{pins:List (Addr×Obj)}{σ:St}{H:Hp}{a:Addr}
end
section
variable{X:Cx}{o e value:Expr}{ta tv:TE}{f:Str}{pos pos':Pos}
open PySem.W
variable{prog:Program}{w:World}{A:Around}{E:Value->Shared->Prop}{s:Shared}{K:FG}{C fI:Addr}
variable{pins:List (Addr×Obj)}{σ:St}{H:Hp}
variable{env:Env}
end
section
variable{X:Cx}{E:XK}{x:Str}{C:Addr}{e:Expr}{es:List Expr}{t:TA}{np cpos pos:Pos}{k k':Nat}{ps:List Str}{sp:Sp}
end
structure RoomQ(k:Nat)(A:Around):Prop where
 dp:A.depth+3*k+5<recursionLimit
 un:A.units+16*k+200<cLine
theorem Room.q{k:Nat}{A:Around}(r:Room k A):RoomQ k A:=⟨r.dp,r.un⟩
section
variable{P:Program}{w:World}{K:FG}{mg:Str->Option Value}{base:Heap}{N ps:List Str}{qual:Str}{scope:Scope}{f:Addr}{cd:Value}{A:Around}{outer:List Env}{s s1:Shared}{H:Hp}{us:List Value}{vs:List V}
variable{x:Str}{st:Stmt}{k:Nat}{sp:Sp}
variable{X:Cx}{k':Nat}{e:Expr}{es:List Expr}{tA:TA}{p pos:Pos}
end
section
variable{X:Cx}{f:Addr}{k k':Nat}{ps:List Str}{sp:Sp}{x y e:Expr}{es:List Expr}{tA:TA}{tv:TE}{p pos:Pos}{t u:TX}
end
section
variable{M:Model}{A:Around}{E:Value->Shared->Prop}{s:Shared}{f:Obj->Prop}{B:Heap}{env:Env}{outer:List Env}{L e:Addr}{fl:Value}{Q:Unit->Shared->Prop}
end
section
variable{P:Program}{w:World}{K:FG}{mg:Str->Option Value}{base:Heap}{N:List Str}{qual:Str}{scope:Scope}{f:Addr}{cd:Value}{A:Around}{outer:List Env}{s0:Shared}{H0:Hp}{E:XK}
variable{X:Cx}{elt iter tg:Expr}{xs:List Str}{pos:Pos}{ifs:List Expr}{cl:List (Str×Addr)}{N':List Str}{js:List Nat}{tt:TT}{g:TG}{wi:TI}
variable{scope0:Scope}{te:TX}
variable{σ:St}{Q:VK}{H1:Hp}
variable{m:Str}{st:Stmt}{ps:List Str}{k:Nat}{sp:Sp}{C:Addr}
variable{pins:List (Addr×Obj)}{H:Hp}{s:Shared}
variable{x:Str}{a:Addr}{e:Expr}{es:List Expr}{t:TA}{np cpos p2:Pos}{j k':Nat}
end
theorem RoomQ.units{k:Nat}{A:Around}(r:RoomQ k A):A.units+64<cLine:=by have:=r.un;omega
section
variable{prog:Program}{w:World}{A:Around}{E:Value->Shared->Prop}{s:Shared}
variable{X:Cx}{elt iter:Expr}{x:Str}{px pos:Pos}{ifs:List Expr}{scope:Scope}{cl:List (Str×Addr)}{N':List Str}{js:List Nat}{tt:TT}{te:TE}
variable{a1:Expr}{p rpos:Pos}{tA:TA}
variable{pins:List (Addr×Obj)}{σ:St}{H:Hp}
variable{body suite:List Stmt}{b0:Stmt}{tb:TB}{th:Addr->TS}{cx n:Str}{np hpos:Pos}{CF:Addr}
end
section
variable{X:Cx}{E:XK}{x:Str}{C:Addr}{np cpos pos:Pos}
end
end L2
namespace L2
open PySem PySem.Spec PyProof.Rows PySem.SeqAt
section
variable{X:Cx}
variable{P:Program}{w:World}{K:FG}{mg:Str->Option Value}{base:Heap}{m qual:Str}{st:Stmt}{ps N:List Str}{k:Nat}{sp:Sp}{C:Addr}
variable{x:Str}{k':Nat}{e:Expr}{es:List Expr}{t:TA}{p pos:Pos}{E:XK}
end
end L2
namespace L2
open PySem PySem.Spec PyProof.Rows PySem.SeqAt
theorem GA{X:Cx}(hc:X.calm=true:=by rfl):iy X (.builtin "max") (λxs H Q=>∃(p:Addr) (is:List Int),xs=[.ref p]/\SqL X.K H p (is.map V.int)/\0<is.length/\∀M∈is,(∀a∈is,a<=M)->Q (.int M) H):=by
 refine⟨λpins s σ H xs us Q I r h=>?_⟩;obtain⟨p,is,rfl,hq,hpos,q⟩:=h;obtain⟨u,rfl,r1⟩:=jh r;cases r1;obtain⟨its,rv,pl,_⟩:=I.list hq;have hi:=pk rv;obtain⟨ys,hy⟩:=hi.allInts.items;have ei:is=ys.toList.map (·.1):=by
  rw[←nums_intItems,←hy];exact hi.numsOf.symm
 have ln:is.length=ys.size:=by rw[ei,aY,dC]
 have best:=argBest_gt (numAt ys) (ys.size-1);refine max_intList (I.ok.hd hc) (by rw[←hy];exact pl.isList) ⋯ λv h' tk hv hk=>?_;obtain⟨t,rfl⟩:=intItems_at hv;refine⟨.int _,H,I.kept hk,⟨()⟩,q _ ?_ λa ha=>?_⟩
 ·rw[numAt_eq,←ei];exact getD_mem (by have:=best.1;omega)
 ·rw[ei] at ha;obtain⟨j,hj,rfl⟩:=mem_getD ha;rw[←ei] at hj;rw[←numAt_eq];exact best.2 j ⋯
section
variable{X:Cx}{m:Str}{C:Addr}{k:Nat}{ps:List Str}{sp:Sp}{o:Expr}{ta:TE}{pos apos:Pos}
theorem j4{x:Str}{e:Expr}{es:List Expr}{tA:TA}{p pos:Pos}(D:Df X.prog X.w X.K X.mg X.base x k ps sp)(hr:Room k X.A)(ha:As X (e::es) tA)(hg:Gl X x:=by rfl)
  (hdb:(x==("__debug__":Str))=false:=by decide) (he:starEach (e::es) X.env=(false,eval e X.env)::starEach es X.env:=by rfl) (hpl:(backTo pos (starEach es X.env)).any (·.1)=false:=by rfl):
  E X (.Call (.Name x p) (e::es) [] pos) (pS sp [] E0 tA):=eD D hr ha (aX _) hg hdb he hpl
theorem E.as{e:Expr}{t u:TE}(h:E X e t)(w:∀σ H Q,u σ H Q->t σ H Q):E X e u:=⟨λpins s σ H Q I z=>h.h pins s σ H Q I (w σ H Q z)⟩
end
theorem FI{K:FG}{H H':Hp}{v:V}{t:Value}(s:Same H H')(h:ja K H v t):ja K H' v t:=by
 cases h with
 |non=>exact .non
 |bl x=>exact .bl x
 |int i=>exact .int i
 |str x=>exact .str x
 |flt x=>exact .flt x
 |lst e=>exact .lst (s _ _ e)
 |frz e=>exact .frz (s _ _ e)
 |tup e=>exact .tup (s _ _ e)
 |dK e=>exact .dK (s _ _ e)
 |dT e=>exact .dT (s _ _ e)
 |ins e c a n k m=>exact .ins (s _ _ e) c a n k m
def DN(K:FG)(C:Addr)(H:Hp)(v:V)(b:Bool):Prop:=∃t,ja K H v t/\PySem.W.kitOne K t (.ref C)=some b
def BF(K:FG)(B C:Addr)(b:Bool):Prop:=IsC K C/\Cls K C/\PySem.W.kitOne K (.ref C) (.ref B)=some b
theorem BF.is{K:FG}{B C x dx:Addr}{b:Bool}{H:Hp}{fs:List (Str×V)}(f:BF K B C b)(h:H x=some (.ins C dx fs)):DN K B H (.ref x) b:=⟨_,f.1.ty f.2.1 h,f.2.2⟩
theorem ox{H1 H':Hp}{x dx:Addr}{a b:HO}(nx:H1 x=none)(ndx:H1 dx=none)(hs:∀b' o,upd (upd H1 dx a) x b b'=some o->b'≠x->H' b'=some o):Same H1 H':=λb' o hb=>
 hs b' o (ky nx ndx _ _ hb) λe=>by rw[e,nx] at hb;cases hb
theorem HK{α:Type}{R:α->Bool->Prop}:∀{us:List α},(∀v∈us,R v true)->∃bs,Paired R us bs/\bs.all id=true
 |[],_=>⟨[],.nil,rfl⟩
 |v::us,h=>by
  obtain⟨bs,hbs,e⟩:=HK λu hu=>h u (bP _ hu);exact⟨true::bs,.cons (h v (bS ..)) hbs,e⟩
theorem Jm{α β:Type}{F:α->β->Prop}:∀{l:List α} {r:List β},Paired F l r->∀v∈l,∃b,F v b
 |_,_,.nil,v,h=>nomatch h
 |_,_,.cons f t,v,h=>(bA.mp h).elim (λe=>by rw[e];exact⟨_,f⟩) λz=>Jm t v z
theorem mC{α β:Type}{F:α->β->Prop}:∀{l:List α} {r:List β},Paired F l r->∀c∈r,∃u∈l,F u c
 |_,_,.nil,v,h=>nomatch h
 |_,_,.cons f t,v,h=>(bA.mp h).elim (λe=>by rw[e];exact⟨_,bS ..,f⟩) λz=>let ⟨u,hu,hf⟩:=mC t v z;⟨u,bP _ hu,hf⟩
theorem xl{X:Cx}{K:FG}(hK:X.K=K:=by rfl):iy X (.builtin "isinstance") (λxs H Q=>∃(v:V) (t:Value) (C':Addr) (b:Bool),xs=[v,.ref C']/\ja K H v t/\PySem.W.kitOne K t (.ref C')=some b/\Q (.bl b) H):=hK▸me
def FC(t u:TS):TS:=λD σ H=>∃I:St->Hp->Prop,t {D with nx:=I} σ H/\∀σ' H',I σ' H'->u D σ' H'
theorem Zj{X:Cx}{st:Stmt}{rest:List Stmt}{t u:TS}(h1:S X st t)(h2:Ss X rest u):Ss X (st::rest) (FC t u):=by
 refine⟨λpins s σ H D I h=>?_⟩;obtain⟨J,h,hJ⟩:=h;refine wpAny_execs_cons (eT (h1.h pins s σ H {D with nx:=J} I h) λf s1 q=>?_);cases f with
 |next=>
  obtain⟨σ',H',I',q⟩:=q;exact h2.h pins s1 σ' H' D I' (hJ _ _ q)
 |ret v=>exact q
 |brk=>exact q
 |cont=>exact q
theorem Digs.non{ds:List Int}(h:Digs ds []):ds=[]:=by cases h;rfl
section
variable{X:Cx}{es:List Expr}{kk:Nat}{tpos:Pos}
variable{js:List Nat}{σ:St}{tt:TT}{te:TE}{Q:VK}{H1:Hp}
end
theorem QR{prog:Program}{w:World}{A:Around}{E:Value->Shared->Prop}{s:Shared}{p q sl:Addr}{its jts:List Value}{n m:Nat}{oq:Obj}{vl vu:Value}{lo hi:Option Int}{Q:Unit->Shared->Prop}(ep:s.heap.get? p=some {cls:=.type "list",data:=.seq its.toArray n})
  (eq_:s.heap.get? q=some oq) (cq:oq.cls=.type "list") (dq:oq.data=.seq jts.toArray m) (ne:p≠q) (es:s.heap.IsSliceOf sl vl vu .none) (pl:IsPart vl lo) (pu:IsPart vu hi) (hz:its.length+jts.length<=sizeLine)
  (h:Q () {s with heap:=s.heap.update p (Obj.mapSeq λxs=>xs.extract 0 (HT.sIx its.length 0 lo)++jts.toArray++xs.extract (max (HT.sIx its.length 0 lo) (HT.sIx its.length its.length hi)) xs.size)}):
  wpAny (model prog w) A (setItem (.ref p) (.ref sl) (.ref q)) Q E s:=by
 have tp:s.TypeIs (.ref p) "list":=⟨_,ep,rfl⟩;have tq:s.TypeIs (.ref q) "list":=⟨_,eq_,cq⟩;obtain⟨os,e1,c1,d1⟩:=es;have ts:s.TypeIs (.ref sl) "slice":=⟨os,e1,c1⟩;obtain⟨b1,b2,b3⟩:=Ir lo hi its.toArray.size;unfold setItem;refine dJ (dG (wpAny_sequenceKey tp (by decide) ?_));refine dG (wpAny_callSpecial?_slot (name:=Str.ofString "__setitem__") tp slot_list_setitem (wpAny_call_entry slot_list_setitem tp entry_list_setitem ?_ (args_list_setitem _ _ _)))
 show wpAny _ _ (Builtin.List.listSubscript? (.ref sl) >>=_) _ _ s;refine dG ?_;unfold Builtin.List.listSubscript?;refine dG (wpAny_specialOf ts slice_no_index ?_);rw[if_pos (show (none:Option Value).isNone=true from rfl)];refine dR ?_;show wpAny _ _ (typeOf (.ref sl) >>=_) _ _ s;refine dG (wpAny_typeOf ts ?_);rw[if_neg (by decide),listSliceParts_eq];refine dG (dG (wpAny_field e1 d1 (x:=.none) rfl (dG (wpAny_listPart .none ?_))))
 rw[if_neg (show ¬((rawPart none==rawInt 0)=true) from bG)];refine dG (wpAny_field e1 d1 (x:=vl) rfl (dG (wpAny_listPart pl (dG (wpAny_field e1 d1 (x:=vu) rfl (dG (wpAny_listPart pu (dR ?_))))))));have nr:Builtin.List.listSameRef (.ref p) (.ref q)=false:=beq_eq_false_iff_ne.mpr ne;rw[nr];refine dG (m:=Builtin.List.listAllItems (.ref q) _) ?_;unfold Builtin.List.listAllItems;refine dG (wpAny_typeOf tq ?_)
 rw[if_pos (by decide)];unfold Builtin.List.listItems;refine dG (wpAny_seqItems eq_ dq (dR ?_));refine dG (dG (wpAny_seqItems ep rfl (dR ?_)));refine dG (wpAny_of_eq (sliceIndices_raw lo hi none its.toArray.size (by simp)) ?_);obtain⟨c1,c2,c3,ec⟩:∃c1 c2 c3,sliceBounds lo hi none its.toArray.size=(c1,c2,c3):=⟨_,_,()⟩;rw[ec] at b1 b2 b3 ⊢;obtain rfl:c1=((HT.sIx its.toArray.size 0 lo:Nat):Int):=b1;obtain rfl:c2=((HT.sIx its.toArray.size its.toArray.size hi:Nat):Int):=b2
 obtain rfl:c3=1:=b3;show wpAny _ _ (if ((1:Int)==1)=true then _ else _) _ _ s;rw[if_pos (by decide)];refine dG (wpAny_rule ?_);show wpAny _ _ (if Builtin.List.listTooLong (its.toArray.size+jts.toArray.size)=true then _ else _) _ _ s;rw[if_neg (by unfold Builtin.List.listTooLong;simp;omega)];refine dG (m:=Builtin.List.listUpdate (.ref p) _) (wpAny_updateSeq ep rfl ?_ (by simp;omega) (by simp;omega))
 refine dG (wpAny_letGo (dR ⟨(),dR ?_⟩));have ef:(λxs:Array Value=>xs.extract 0 (((HT.sIx its.toArray.size 0 lo:Nat):Int)).toNat++jts.toArray++xs.extract (max ((HT.sIx its.toArray.size 0 lo:Nat):Int) ((HT.sIx its.toArray.size its.toArray.size hi:Nat):Int)).toNat)=λxs=>xs.extract 0 (HT.sIx its.length 0 lo)++jts.toArray++xs.extract (max (HT.sIx its.length 0 lo) (HT.sIx its.length its.length hi)) xs.size:=by
  funext xs;rw[bJ,bQ,show (max ((HT.sIx its.length 0 lo:Nat):Int) ((HT.sIx its.length its.length hi:Nat):Int)).toNat=max (HT.sIx its.length 0 lo) (HT.sIx its.length its.length hi) by omega]
 rw[ef];exact h
theorem QI(its jts:List Value)(n a b:Nat):∃n',Obj.mapSeq (λxs=>xs.extract 0 a++jts.toArray++xs.extract b xs.size) {cls:=.type "list",data:=.seq its.toArray n}={cls:=.type "list",data:=.seq (its.take a++jts++its.drop b).toArray n'}:=by
 have e:its.toArray.extract 0 a++jts.toArray++its.toArray.extract b its.toArray.size=(its.take a++jts++its.drop b).toArray:=by
  apply Array.toList_inj.mp;simp[dE]
 unfold Obj.mapSeq;dsimp only;rw[e];exact⟨()⟩
noncomputable def rf(xs ys:List V)(lo hi:Option Int):List V:=xs.take (HT.sIx xs.length 0 lo)++ys++xs.drop (max (HT.sIx xs.length 0 lo) (HT.sIx xs.length xs.length hi))
def DC(K:FG)(to:TE)(tl th:TO):TG:=λv σ H Q=>to σ H λo H1=>tl σ H1 λl H2=>th σ H2 λu H3=>∃(p q:Addr) (xs ys:List V),o=.ref p/\v=.ref q/\p≠q/\H3 p=some (.lst xs)/\SqL K H3 q ys/\xs.length+ys.length<=sizeLine/\Q σ (upd H3 p (.lst (rf xs ys l u)))
theorem PZ{X:Cx}{o:Expr}{lo hi:Option Expr}{to:TE}{tl th:TO}{p2 pos:Pos}(ho:E X o to)(hl:Po X lo tl)(hu:Po X hi th):Gt X (.Subscript o (.Slice lo hi none p2) pos) (DC X.K to tl th):=by
 refine⟨λpins s σ H v u Q I r h=>?_⟩;show wpAny _ _ (do
   let ov ←holding [u] (eval o X.env)
   let iv ←holding [u,ov] (eval (.Slice lo hi none p2) X.env)
   standAt pos
   holding [u,ov,iv] (setItem ov iv u)
   release [iv,u,ov] []) _ _ s
 refine dG (dJ (eT (ho.h pins s σ H _ I h) λov s1 ⟨x,H1,I1,r1,q1⟩=>?_));refine dG (dJ (wpAny_Slice (eT (hl.h pins s1 σ H1 _ I1 q1) λvl s2 ⟨l,H2,I2,pl,q2⟩=>eT (hu.h pins s2 σ H2 _ I2 q2) λvu s3 ⟨u',H3,I3,pu,q3⟩=>?_)));rw[evalPart_none];refine dR ?_;have I4:Inv X pins σ H3 {s3 with heap:=s3.heap.push {cls:=.type "slice",data:=.fields #[vl,vu,.none]} }:=I3.kept (t':=s3.toks) λb ob q=>bD _ q;obtain⟨p,q,xs,ys,rfl,rfl,ne,hp,hq,hz,qq⟩:=q3
 cases r1;cases r;obtain⟨its,n,rv,ep,_⟩:=I4.lst hp;obtain⟨jts,rv',pl',_⟩:=I4.list hq;obtain⟨oq,eq_,cq,m,dq⟩:=pl'.isList;have e1:=rv.length;have e2:=rv'.length;refine dG (wpAny_standAt (dG (dJ (QR ep eq_ cq dq ne (Heap.IsSliceOf.new ..) pl pu ⋯ (wpAny_release ?_)))));obtain⟨n',en⟩:=QI its jts n (HT.sIx its.length 0 l) (max (HT.sIx its.length 0 l) (HT.sIx its.length its.length u'));refine⟨σ,_,I4.lstUpd hp ep en (ys:=rf xs ys l u') ?_ ?_ _,qq⟩
 ·unfold rf;rw[e1];exact ((rv.take _).append rv').append (rv.drop _)
 ·unfold rf;rw[aZ,aZ,cX,List.length_drop];omega
theorem hZ{X:Cx}{K:FG}{e:Expr}{f:Str}{ta:TE}{pos:Pos}(he:E X e ta)(hK:X.K=K:=by rfl)(hb:attributeBase e f X.env (eval e X.env)=eval e X.env:=by rfl):E X (.Attribute e f pos) (qC K ta f):=hK▸jg he hb
section
variable{js:List Nat}{σ:St}{tt:TT}{te:TE}{Q:VK}{H1:Hp}
theorem LB{K:FG}{a:Addr}{xs:List V}(R:Addr->Nat->List V->Hp->Prop)(hm:∀D i l H l0 l',H D=some (.lst l0)->H1 D=none->R D i l H->R D i l (upd H D (.lst l')))(hn:xs.length<=sizeLine)(h0:∀D,H1 D=none->R D 0 [] (upd H1 D (.lst [])))(hq:SqL K H1 a xs)
  (hs:∀(i:Nat) (v:V) (l:List V) (D:Addr) (H2:Hp) (E:V->Hp->Prop) (F:Hp->Prop),xs[i]? =some v->R D i l H2->H1 D=none->Same H1 H2->H2 D=some (.lst l)->(∀y H5,Same H2 H5->R D (i+1) (l++[y]) H5->E y H5)->(∀H4,Same H2 H4->R D (i+1) l H4->F H4)->
   tt (some v::gZ js σ) H2 λb H4=>if b=true then te (some v::gZ js σ) H4 E else F H4)
  (hd:∀(D:Addr) (H2:Hp) (l:List V),R D xs.length l H2->H1 D=none->Same H1 H2->H2 D=some (.lst l)->Q (.ref D) H2):kN (mD K a) js σ tt te Q H1:=by
 intro D hD;refine⟨λi m H2=>m=xs.length-i/\i<=xs.length/\Same H1 H2/\∃l,H2 D=some (.lst l)/\l.length<=i/\R D i l H2,⟨xs.length,by simp,bK _,eE hD _,[],dY,aX _,h0 D hD⟩,?_⟩;rintro i m H2 ⟨rfl,hi,s2,l,h2,hll,hR⟩;by_cases hlt:i<xs.length
 ·refine .inr ⟨⟨xs,xs[i],s2.seq hq,by simp[hlt]⟩,λv H3 y=>?_⟩;obtain⟨e,ev⟩:=y;subst e;refine hs i v l D _ _ _ (ev xs (s2.seq hq)) hR hD s2 h2 (λz H5 s5 r5=>?_) (λH4 s4 r4=>?_)
  ·refine⟨l,s5 _ _ h2,cH hll (bC hlt hn),xs.length-(i+1),⋯,rfl,hlt,λb o hb=>?_,l++[z],dY,by rw[aZ,b7];omega,hm _ _ _ _ _ _ (s5 _ _ h2) hD r5⟩;rw[eQ (gR hb hD)];exact s5 _ _ (s2 _ _ hb)
  ·exact⟨xs.length-(i+1),⋯,rfl,hlt,s2.trans s4,l,s4 _ _ h2,⋯,r4⟩
 ·have e:i=xs.length:=⋯;subst e;exact .inl ⟨⟨xs,s2.seq hq,aX _⟩,hd D H2 l hR hD s2 h2⟩
theorem Nc{lo:Int}{n:Nat}(R:Addr->Nat->List V->Hp->Prop)(hm:∀D i l H l0 l',H D=some (.lst l0)->H1 D=none->R D i l H->R D i l (upd H D (.lst l')))(hn:n<=sizeLine)(h0:∀D,H1 D=none->R D 0 [] (upd H1 D (.lst [])))
  (hs:∀(i:Nat) (l:List V) (D:Addr) (H2:Hp) (E:V->Hp->Prop) (F:Hp->Prop),i<n->R D i l H2->H1 D=none->Same H1 H2->H2 D=some (.lst l)->(∀y H5,Same H2 H5->R D (i+1) (l++[y]) H5->E y H5)->(∀H4,Same H2 H4->R D (i+1) l H4->F H4)->
   tt (some (.int (lo+i))::gZ js σ) H2 λb H4=>if b=true then te (some (.int (lo+i))::gZ js σ) H4 E else F H4)
  (hd:∀(D:Addr) (H2:Hp) (l:List V),R D n l H2->H1 D=none->Same H1 H2->H2 D=some (.lst l)->Q (.ref D) H2):kN (kZ lo n) js σ tt te Q H1:=by
 intro D hD;refine⟨λi m H2=>m=n-i/\i<=n/\Same H1 H2/\∃l,H2 D=some (.lst l)/\l.length<=i/\R D i l H2,⟨n,by simp,bK _,eE hD _,[],dY,aX _,h0 D hD⟩,?_⟩;rintro i m H2 ⟨rfl,hi,s2,l,h2,hll,hR⟩;by_cases hlt:i<n
 ·refine .inr ⟨hlt,λv H3 y=>?_⟩;obtain⟨e,ev⟩:=y;subst e ev;refine hs i l D _ _ _ hlt hR hD s2 h2 (λz H5 s5 r5=>?_) (λH4 s4 r4=>?_)
  ·refine⟨l,s5 _ _ h2,cH hll (bC hlt hn),n-(i+1),⋯,rfl,hlt,λb o hb=>?_,l++[z],dY,by rw[aZ,b7];omega,hm _ _ _ _ _ _ (s5 _ _ h2) hD r5⟩;rw[eQ (gR hb hD)];exact s5 _ _ (s2 _ _ hb)
  ·exact⟨n-(i+1),⋯,rfl,hlt,s2.trans s4,l,s4 _ _ h2,⋯,r4⟩
 ·have e:i=n:=⋯;subst e;exact .inl ⟨aX _,hd D H2 l hR hD s2 h2⟩
variable{prog:Program}{w:World}{A:Around}{E:Value->Shared->Prop}{s:Shared}
variable{X:Cx}{es:List Expr}{kk:Nat}{tpos:Pos}
end
theorem vD{X:Cx}(hu:X.A.units+64<cLine):gE X (compareOp .NotEq) (λx y H Q=>∃(a b:Addr) (vs:List V),x=.ref a/\y=.ref b/\SqL X.K H a vs/\SqL X.K H b []/\Q (.bl (decide (vs≠[]))) H):=by
 refine⟨λpins s σ H x y v u Q I rx ry h=>?_⟩;obtain⟨a,b,vs,rfl,rfl,ha,hb,q⟩:=h;cases rx;cases ry;obtain⟨its,rv,pl,_⟩:=I.list ha;obtain⟨its',rv',pl',_⟩:=I.list hb;cases rv';have e:=rv.length;cases vs with
 |nil=>
  cases rv;refine SeqAt.RcNeAt.lists (e:=λ_=>true) pl.isList pl'.isList rfl ⋯ (λi h1 h2=>SeqAt.EqAt.same _) _ _ _ _ ?_;exact⟨.bl false,H,I,by show Value.bool _=Value.bool false;congr 1,q⟩
 |cons v0 vs=>
  refine SeqAt.RcNeAt.lists_lengths pl.isList pl'.isList (by rw[bJ,←e];rfl) ⋯ _ _ _ _ ?_;exact⟨.bl true,H,I,rfl,q⟩
end L2
namespace L2
open PySem PySem.Spec PyProof.Rows PySem.SeqAt
noncomputable abbrev qQ:=Int×Int×Int
noncomputable def rP(p:qQ):PyData:=.tuple [.int p.1,.int p.2.1,.int p.2.2]
noncomputable def C9(l:List qQ):PyData:=.list (l.map rP)
section
variable{X:Cx}
theorem JF:∀ns ms:List qQ,PySem.Spec.sameAll (ns.map rP) (ms.map rP)=decide (ns=ms)
 |[],[]=>by simp[PySem.Spec.sameAll]
 |[],_::_=>by simp[PySem.Spec.sameAll]
 |_::_,[]=>by simp[PySem.Spec.sameAll]
 |(a,b,c)::r,(x,y,z)::q=>by
  simp only[bM,rP,PySem.Spec.sameAll,PySem.Spec.same,JF r q];by_cases h1:a=x<;>by_cases h2:b=y<;>by_cases h3:c=z<;>simp[h1,h2,h3]
theorem jQ:∀ns ms:List (List qQ),PySem.Spec.sameAll (ns.map C9) (ms.map C9)=decide (ns=ms)
 |[],[]=>by simp[PySem.Spec.sameAll]
 |[],_::_=>by simp[PySem.Spec.sameAll]
 |_::_,[]=>by simp[PySem.Spec.sameAll]
 |a::r,b::q=>by
  simp only[bM,C9,PySem.Spec.sameAll,PySem.Spec.same,JF a b,jQ r q];by_cases h1:a=b<;>simp[h1]
end
def SameBut(S:Addr->Prop)(H H':Hp):Prop:=∀b o,H b=some o->¬S b->H' b=some o
theorem SameBut.seq{S:Addr->Prop}{K:FG}{H H':Hp}{a:Addr}{xs:List V}(e:SameBut S H H')(n:∀o,H a=some o->¬S a)(h:SqL K H a xs):SqL K H' a xs:=by
 rcases h with (h | ⟨o,h⟩) | h
 ·exact .inl (.inl (e _ _ h (n _ h)))
 ·exact .inl (.inr ⟨o,e _ _ h (n _ h)⟩)
 ·exact .inr h
theorem eP{N P:List Str}{sc:Scope}(h1:sc.kind=.function:=by rfl)(h2:sc.isCoroutine=false:=by rfl)(h3:sc.isGenerator=false:=by rfl)(h4:N.Nodup:=by decide +kernel)(h5:N.take P.length=P:=by rfl)(h6:∀x∈P,sc.names.lookup x=some .local∨sc.names.lookup x=some .cell:=by decide +kernel)(h7:∀y∈sc.names,y.2≠ .free:=by decide +kernel):dW N P sc:=⟨h1,h2,h3,h4,h5,h6,h7⟩
theorem wM{α β:Type}{F:α->β->Prop}{a:α}{r:List β}(h:Paired F [a] r):∃v,r=[v]/\F a v:=by
 cases h with
 |cons h1 t=>cases t;exact⟨(),h1⟩
theorem Fk{α β:Type}{F:α->β->Prop}{a b:α}{r:List β}(h:Paired F [a,b] r):∃u v,r=[u,v]/\F a u/\F b v:=by
 cases h with
 |cons h1 t=>
  obtain⟨v,rfl,h2⟩:=wM t;exact⟨_,v,rfl,h1,h2⟩
theorem zL(n:Nat)(h:n<=100:=by decide):n<=sizeLine:=by rw[dI];omega
section
variable{X:Cx}
def Ho(i j:Int):Prop:=0<=j/\j<=1000000/\i.natAbs<2^1440
theorem aDW:gI X (binaryOp .LShift) (rI Ho λi j=>.int (i*2^j.toNat)):=mZ λi j _ _ _ _ _ hc q=>lshift_int hc.1 (by
 have hb:Builtin.Int.intBits i<=1440:=intBits_le hc.2.2;have:=hc.2.1;omega) q
theorem VE:gE X (binaryOp .LShift) (rI Ho λi j=>.int (i*2^j.toNat)):=⟨aDW⟩
end
end L2
namespace L2
open PySem PySem.Spec PyProof.Rows PySem.W
noncomputable def ik(a:Addr)(o:Obj):HO:=.ext λh=>h.get? a=some o
noncomputable def lh(c:Addr)(qual:Str):HO:=.ext λh=>h.CodeRec (.ref c) qual
noncomputable def hU(H:Hp)(a:Addr):Hp:=λb=>if b=a then none else H b
theorem mG{H:Hp}{a:Addr}:hU H a a=none:=if_pos rfl
theorem jq{H:Hp}{a b:Addr}(h:b≠a):hU H a b=H b:=if_neg h
theorem GK{H:Hp}{a b:Addr}{o:HO}(h:hU H a b=some o):b≠a/\H b=some o:=by
 by_cases e:b=a
 ·rw[e,mG] at h;cases h
 ·rw[jq e] at h;exact⟨e,h⟩
section
variable{P:Program}{w:World}{H:Hp}{h:Heap}{a:Addr}{o:HO}
theorem HOk.era_(x:HOk P w H h)(no:∀z,H a≠some (.own z))(nt:∀xs,H a≠some (.tup xs)):HOk P w (hU H a) h:=λb u e=>by
 obtain⟨hb,e⟩:=GK e;refine (x b u e).stay (λ_ _ _ q=>q) (λc q=>?_) λc xs q=>?_
 ·by_cases z:c=a
  ·exact absurd (z▸q) (no b)
  ·rw[jq z];exact q
 ·by_cases z:c=a
  ·exact absurd (z▸q) (nt xs)
  ·rw[jq z];exact q
theorem HOk.track(x:HOk P w H h)(hn:H a=none)(new:ObjOk P w (upd H a o) h a o):HOk P w (upd H a o) h:=λb u e=>by
 by_cases hb:b=a
 ·subst hb;rw[dY] at e;cases e;exact new
 ·rw[eQ hb] at e;exact (x b u e).stay (λ_ _ _ q=>q) (λc q=>by rw[eQ (gR q hn)];exact q) λc xs q=>by rw[eQ (gR q hn)];exact q
theorem oG{ob:Obj}(e:h.get? a=some ob):ObjOk P w H h a (ik a ob):=⟨e,⟨ob,e⟩,λh1 h2 e1 k=>k _ e1⟩
theorem ou{ob:Obj}(x:HOk P w H h)(e:H a=some (ik a ob)):h.get? a=some ob:=(x a _ e).1
theorem aH2{q:Str}(x:HOk P w H h)(e:H a=some (lh a q)):h.CodeRec (.ref a) q:=(x a _ e).1
end
noncomputable def jS(P:Program)(w:World)(K:Frag)(mg:Str->Option Value)(base:Heap)(N:List Str)(qual:Str)(scope:Scope)(L f c':Addr)(cl:List (Str×Addr))(A:Around)(outer:List Env)(s:Shared)(H:Hp):Cx where
 prog:=P
 w:=w
 K:=K
 mg:=mg
 base:=base
 A:=A.deeper (envX qual scope L f (.ref c') cl)
 N:=N
 s₀:=s
 H₀:=H
 env:=envX qual scope L f (.ref c') cl
 outer:=outer
 stack:=envX qual scope L f (.ref c') cl::outer
 ex:=[]
 fn:=λ_=>false
 calm:=true
 pn:=[]
 xe:=λ_ _=>False
structure ix(x y:Str)(scope:Scope):Prop where
 kind:scope.kind=.function
 co:scope.isCoroutine=false
 gen:scope.isGenerator=false
 nocell:∀z∈scope.names,z.2≠ .cell
 par:scope.names.lookup x=some .local
 fre:scope.names.lookup y=some .free
 only:∀z∈scope.names,z.2=.free->z.1=y
 ne:x≠y
theorem M2{P:Program}{w:World}{K:Frag}{mg:Str->Option Value}{base:Heap}{x y:Str}{qual:Str}{scope:Scope}{f c' a:Addr}{A:Around}{outer:List Env}{s s1:Shared}{H:Hp}{u u0:Value}{v v0:V}{o0:Obj}{h1:Heap}{tk:Tok}
  (S:ix x y scope) (hd:A.handled=none) (e0:Env0 P w K mg base A outer s H) (ha:H a=some (ik a o0)) (ho:o0.data=.cell (some u0)) (r0:RelV v0 u0) (r:RelV v u)
  (hns:h1.Ns s.heap.objs.size (λz=>[(x,u)].reverse.lookup z)) (hk:∀b o,s.heap.get? b=some o->h1.get? b=some o) (hs:s1={s with heap:=h1,toks:=tk}):
  Inv (jS P w K mg base [x,y] qual scope s.heap.objs.size f c' [(y,a)] A outer s (hU H a)) [] [some v,some v0] (hU H a) s1:=by
 subst hs;have hao:=ou e0.hok ha;have noA:∀b:Addr,b∉(jS P w K mg base [x,y] qual scope s.heap.objs.size f c' [(y,a)] A outer s (hU H a)).ex:=λb z=>absurd (show b∈([]:List Addr) from z) (by simp);have one:∀z c,([(y,a)]:List (Str×Addr)).lookup z=some c->z=y/\c=a:=λz c e=>by
  have m:=PySem.mem_of_lookup e;have:=bW.mp m;exact⟨congrArg Prod.fst this,congrArg Prod.snd this⟩
 have ly:([(y,a)]:List (Str×Addr)).lookup y=some a:=by simp
 have fr:∀b,H b=none->hU H a b=none:=λb e=>by
  by_cases z:b=a
  ·rw[z];exact mG
  ·rw[jq z];exact e
 have hok':HOk P w (hU H a) s.heap:=e0.hok.era_ (λz e=>by rw[ha] at e;cases e) (λxs e=>by rw[ha] at e;cases e);have cell:h1.IsCell a (some u0):=⟨o0,hk _ _ hao,ho⟩;refine⟨⟨e0.mod,S.kind,rfl,rfl,aX _,λz1 z2 c q1 q2=>(one z1 c q1).1.trans (one z2 c q2).1.symm,λz hz=>?_,(λz c q _=>nomatch q),λ_=>hd,Around.frames_deeper e0.frames,.inr ⟨rfl,rfl⟩,λb z=>absurd z (noA b),λb o e=>⟨(e0.bs b o e).1,fr b (e0.bs b o e).2⟩,e0.bsz,λb _ _=>noA b,λb z=>absurd z (noA b),e0.funs,λb hb=>fr b (e0.frf b hb)⟩,
  rfl,e0.bare,Un.kept hk,⟨_,hns,λi z v' q1 q2 q3=>?_⟩,λz c q=>?_,fr _ (e0.hok.fresh (aX _)),λz c q=>?_,λp hp=>absurd (show p∈([]:List (Addr×Obj)) from hp) (by simp),hok'.kept hk,rfl⟩
 ·have hz:scope.names.lookup z=some .cell∨scope.names.lookup z=some .free:=hz;rcases hz with hz | hz
  ·exact absurd rfl (S.nocell _ (PySem.mem_of_lookup hz))
  ·have:=S.only _ (PySem.mem_of_lookup hz) rfl;exact⟨a,by show ([(y,a)]:List (Str×Addr)).lookup z=_;rw[show z=y from this];exact ly⟩
 ·match i,q1,q2 with
  |0,q1,q2=>
   cases q1;cases q2;exact⟨u,r,.inl ⟨S.par,by show ([(x,u)]:List (Str×Value)).reverse.lookup x=some u;simp⟩⟩
  |1,q1,q2=>
   cases q1;cases q2;exact⟨u0,r0,.inr ⟨.inr S.fre,a,ly,cell⟩⟩
  |i+2,q1,_=>exact nomatch q1
 ·obtain⟨_,rfl⟩:=one z c q;exact⟨_,cell⟩
 ·obtain⟨_,rfl⟩:=one z c q;exact mG
theorem NE{P:Program}{w:World}{K:Frag}{mg:Str->Option Value}{base:Heap}{k:Nat}{x y:Str}{name qual:Str}{params:Arguments}{body:Expr}{scope:Scope}{pm ctv:Value}{f c' a:Addr}{A:Around}{outer:List Env}{s:Shared}{H:Hp}{args:Args}{u u0:Value}{v v0:V}{o0:Obj}{Q:VK}{E:XK}{t:TE}
  (S:ix x y scope) (hr:Room (k+1) A) (e0:Env0 P w K mg base A outer s H) (hb:BindsTo s (kla_fn name qual params body scope [(y,a)] pm (.ref c') ctv) args [(x,u)]) (r:RelV v u)
  (hf:H f=some (ik f (kla_obj name qual params body scope [(y,a)] pm c' ctv))) (hc:H c'=some (lh c' qual)) (ha:H a=some (ik a o0)) (ho:o0.data=.cell (some u0)) (r0:RelV v0 u0)
  (hbody:L2.E (jS P w K mg base [x,y] qual scope s.heap.objs.size f c' [(y,a)] A outer s (hU H a)) body t)
  (h:t [some v,some v0] (hU H a) λv' H'=>H' a=none->Q v' (upd H' a (ik a o0))):
  codeAny (model P w) A (.call (.ref f) args) (CR je outer P w H s Q E) s:=by
 have lim:s.heap.NoLimit:=e0.mod.nolimit.keeps λb o e=>(e0.bs b o e).1;refine kla_callFunE (by have:=hr.dp;omega) (ou e0.hok hf) rfl S.co S.gen rfl (aH2 e0.hok hc) (hb _ _ _ _ ?_);refine wpAny_newFunctionEnv S.nocell (λz hz=>by rw[bW.mp hz];exact S.par) (λh₁ hns hsb=>⟨lim.fresh _ hsb,?_⟩) S.kind;show codeAny _ _ (.expr body (envX qual scope s.heap.objs.size f (.ref c') [(y,a)])) _ _;have hk₁:∀b o,s.heap.get? b=some o->h₁.get? b=some o:=λb o e=>hsb.extBut b o (bE (a9 e)) (bD _ e)
 refine kla_codeExpr ?_;have I:=M2 (f:=f) (c':=c') (qual:=qual) (tk:=s.toks+([(x,u)]:List (Str×Value)).length) S hr.hd e0 ha ho r0 r hns hk₁ rfl;refine dH (hbody.h [] _ _ _ _ I h) (λv' s' hq=>?_) λe s' hq=>hq.elim;obtain⟨z,H',J,rz,q⟩:=hq;have hao:=ou e0.hok ha
 -- the cell is as it was
 have ca:s'.heap.get? a=some o0:=J.base.keep a o0 hao mG (λhb=>by
  have:=e0.frf a hb;rw[ha] at this;cases this) (by simp[jS])
 refine⟨z,upd H' a (ik a o0),J.os,J.bare,⟨λb o e n hb hx=>?_,λb o e n hb hx=>?_,λb o e n hx=>?_,λb o e hx=>J.base.there b o e hx,λb xs e=>?_,λb o u e=>?_,λb ps e=>?_⟩,J.hok.track (J.base.free a o0 hao mG (by simp[jS])) (oG ca),rz,q (J.base.free a o0 hao mG (by simp[jS]))⟩
 all_goals have na:b≠a:=λz=>by (first | (rw[z,ha] at n;cases n) | (rw[z,ha] at e;cases e))
 ·exact J.base.keep b o e (by rw[show (jS P w K mg base [x,y] qual scope s.heap.objs.size f c' [(y,a)] A outer s (hU H a)).H₀=hU H a from rfl,jq na];exact n) hb hx
 ·exact J.base.slot b o e (by rw[show (jS P w K mg base [x,y] qual scope s.heap.objs.size f c' [(y,a)] A outer s (hU H a)).H₀=hU H a from rfl,jq na];exact n) hb hx
 ·rw[eQ na];exact J.base.free b o e (by rw[show (jS P w K mg base [x,y] qual scope s.heap.objs.size f c' [(y,a)] A outer s (hU H a)).H₀=hU H a from rfl,jq na];exact n) hx
 ·rw[eQ na];exact J.base.tups b xs (by rw[show (jS P w K mg base [x,y] qual scope s.heap.objs.size f c' [(y,a)] A outer s (hU H a)).H₀=hU H a from rfl,jq na];exact e)
 ·rw[eQ na];exact J.base.frzs b o u (by rw[show (jS P w K mg base [x,y] qual scope s.heap.objs.size f c' [(y,a)] A outer s (hU H a)).H₀=hU H a from rfl,jq na];exact e)
 ·obtain⟨more,z⟩:=J.base.tbls b ps (by rw[show (jS P w K mg base [x,y] qual scope s.heap.objs.size f c' [(y,a)] A outer s (hU H a)).H₀=hU H a from rfl,jq na];exact e);exact⟨more,by rw[eQ na];exact z⟩
end L2
namespace L2
open PySem PySem.Spec PyProof.Rows PySem.W
structure FnC(K:Frag)(mg:Str->Option Value)(x:Str)(st:Stmt)(ps:List Str)(c:Addr):Prop where
 ex:∃(f:Addr) (oc:Value) (od:Option Addr) (kV doc pm:Value) (an:Option Addr) (ct:Value) (osl:Array (Option Value)),
  K.lookup f=some ⟨oc,od,.func (fnOf x x (jf st) (iG st) (eG st) .none kV doc pm an (.ref c) ct),osl⟩/\codeIn K (.ref c) x=true/\keepIn K (.ref f)=true/\Binds K (fnOf x x (jf st) (iG st) (eG st) .none kV doc pm an (.ref c) ct) ps []/\mg x=some (.ref f)
section
variable{P:Program}{w:World}{K:Frag}{mg:Str->Option Value}{base:Heap}{x:Str}{st:Stmt}{ps N:List Str}{k:Nat}{sp:Sp}{c:Addr}
theorem FnC.dfs(F:FnC K mg x st ps c)(S':dW N ps (eG st))(len:∀vs H Q E,sp vs H Q E->vs.length=ps.length)
  (hbody:∀(f:Addr) (A:Around) (outer:List Env) (s:Shared) (H:Hp) (vs:List V) (Q:VK) (E:XK),Room k (A.deeper (envOfC x (eG st) s.heap.objs.size f (.ref c)))->sp vs H Q E->
   Go P w K mg base N x st f (.ref c) A outer s H vs Q E):Df P w K mg base x (k+1) ps sp:=by
 obtain⟨f,oc,od,kV,doc,pm,an,ct,osl,lk,hcd,kp,hb,hm⟩:=F.ex;refine⟨⟨f,_,sD lk hcd S' len λA outer s H vs Q E hr hsp=>?_,hb,hm,kp⟩⟩;obtain⟨t,h,q⟩:=hbody f A outer s H vs Q E hr hsp;exact⟨t,h.h.nox,q⟩
theorem V3{h:Heap}{f:Addr}{oc:Value}{od an:Option Addr}{osl:Array (Option Value)}{kV doc pm ct:Value}(X:K.In h)(G:h.Ns mainGlobals mg)
  (a:nsIn K mainGlobals x=some (some (.ref f))) (l:K.lookup f=some ⟨oc,od,.func (fnOf x x (jf st) (iG st) (eG st) .none kV doc pm an (.ref c) ct),osl⟩)
  (cd:codeIn K (.ref c) x=true) (kp:keepIn K (.ref f)=true)
  (hb:∀(kV doc pm:Value) (an:Option Addr) (cdv ct:Value) (us:List Value),us.length=ps.length->bindArgs (fnOf x x (jf st) (iG st) (eG st) .none kV doc pm an cdv ct) ⟨us,[]⟩=pure (ps.zip us)):FnC K mg x st ps c:=
 ⟨⟨f,oc,od,kV,doc,pm,an,ct,osl,l,cd,kp,(rm (st:=st) l cd kp).binds (ps:=ps) hb,mg_of X G a⟩⟩
end
structure mT(K:Frag)(mg:Str->Option Value)(c Pt bm:Addr):Prop where
 code:∀h:Heap,K.In h->CodeHd h c Pt
 blt:mg "__builtins__"=some (.ref bm)/\bm≠builtinsNs
def nS(H:Hp)(bm:Addr):Prop:=∃ob u,H bm=some (.frz ob u)/\ob.cls=.type "module"/\ob.dict=some builtinsNs/\ob.data=.plain
noncomputable def jD(X:Cx)(y:Str):Addr:=(X.env.cells.lookup y).getD 0
noncomputable def nZ(qual:Str)(params:Arguments)(body:Expr)(scope:Scope)(y:Str)(a:Addr)(pm:Value)(c':Addr)(ctv:Value):Obj:=kla_obj "<lambda>" qual params body scope [(y,a)] pm c' ctv
def FO(Pt bm:Addr)(lpos:Pos)(qual:Str)(params:Arguments)(body:Expr)(scope:Scope)(y:Str)(a:Addr)(pm:Value):TE:=λ_ H Q=>nS H bm/\∃ps:Array Value,H Pt=some (.tbl ps)/\TriplesOk ps.toList/\
 ((codeAmong lpos ps.toList=none/\∀f c' ctv,H f=none->H c'=none->c'≠f->Q (.ref f) (upd (upd (upd H Pt (.tbl (ps++ #[rawInt lpos.line,rawInt lpos.col,.ref c']))) c' (lh c' qual)) f (ik f (nZ qual params body scope y a pm c' ctv))))∨
 (∃c0,codeAmong lpos ps.toList=some (.ref c0)/\H c0=some (lh c0 qual)/\∀f ctv,H f=none->Q (.ref f) (upd H f (ik f (nZ qual params body scope y a pm c0 ctv)))))
section
variable{X:Cx}
theorem wX{params:Arguments}{body:Expr}{scope:Scope}{lpos:Pos}{y:Str}{c Pt bm:Addr}(hh:mT X.K X.mg c Pt bm)(hcode:X.env.code=.ref c:=by rfl)(hcl:closureFor scope X.env=pure [(y,jD X y)]:=by rfl)(hdef:defaultsOf params X.env=([],[]):=by rfl):
  E X (.Lambda params body scope lpos) (FO Pt bm lpos (X.env.qual++"<lambda>") params body scope y (jD X y) ((X.mg "__name__").getD .none)):=by
 refine⟨λpins s σ H Q I h=>?_⟩;obtain⟨⟨ob,u,hbm,b4,b5,b6⟩,ps,hP,ht,h⟩:=h;have hPh:s.heap.get? Pt=some (tabObj ps):=I.hok Pt _ hP;have hg:s.heap.Ns mainGlobals X.mg:=I.mod.glob.keeps I.bk;have bn:∀b o,X.base.get? b=some o->b≠Pt:=λb o e z=>by
  have:=(I.bs b o e).2;rw[z,hP] at this;cases this
 have hgP:mainGlobals≠Pt:=by
  obtain⟨o,es,ep,e,_⟩:=I.mod.glob;exact bn _ _ e
 have hb:s.heap.BuiltinsAt X.mg Pt:=by
  obtain⟨b1,b2⟩:=hh.blt;refine⟨bm,ob,b1,b2,λz=>?_,λz=>?_,(I.hok bm _ hbm).1,b4,b5,b6⟩
  ·obtain⟨o,es,ep,e2,_⟩:=I.mod.glob;have:=(I.bs _ _ e2).2;rw[←z,hbm] at this;cases this
  ·rw[z,hP] at hbm;cases hbm
 have nl:X.env.locals≠Pt:=λz=>by
  have:=I.free;rw[z,hP] at this;cases this
 refine kla_eval hdef ?_;rcases h with ⟨hnf,h⟩ | ⟨c0,hf,hc0,h⟩
 ·refine kla_makeFunction (mg:=X.mg) hcl I.ok.glob hg hcode (hh.code _ I.kIn) hPh ht hnf hgP hb λc' ctv h' tk hx hge hlt hrec htb=>?_;have szle:s.heap.objs.size<=h'.objs.size:=Nat.le_of_lt (cH hge hlt);have ltc:∀b o,s.heap.get? b=some o->b≠c'/\b≠h'.objs.size:=λb o e=>⟨bE (bC (a9 e) hge),bE (bC (a9 e) szle)⟩;have hc'n:H c'=none:=I.hok.fresh hge;have hfn:H h'.objs.size=none:=I.hok.fresh szle;have cf:c'≠h'.objs.size:=bE hlt
  have jU:∀b o,H b=some o->b≠c'/\b≠h'.objs.size:=λb o e=>⟨gR e hc'n,gR e hfn⟩
  let fo:=nZ (X.env.qual++"<lambda>") params body scope y (jD X y) ((X.mg "__name__").getD .none) c' ctv
  let H1:=upd (upd (upd H Pt (.tbl (ps++ #[rawInt lpos.line,rawInt lpos.col,.ref c']))) c' (lh c' (X.env.qual++"<lambda>"))) h'.objs.size (ik h'.objs.size fo)
  have H1o:∀b,b≠Pt->b≠c'->b≠h'.objs.size->H1 b=H b:=λb n1 n2 n3=>by show upd (upd (upd H Pt _) c' _) h'.objs.size _ b=_;rw[eQ n3,eQ n2,eQ n1]
  have kp:∀b o,b≠Pt->s.heap.get? b=some o->(h'.push fo).get? b=some o:=λb o n e=>bD _ (hx b o n e);have PtN:Pt≠c'/\Pt≠h'.objs.size:=jU _ _ hP;have H1P:H1 Pt=some (.tbl (ps++ #[rawInt lpos.line,rawInt lpos.col,.ref c'])):=by show upd (upd (upd H Pt _) c' _) h'.objs.size _ Pt=_;rw[eQ PtN.2,eQ PtN.1,dY]
  have H1c:H1 c'=some (lh c' (X.env.qual++"<lambda>")):=by show upd (upd (upd H Pt _) c' _) h'.objs.size _ c'=_;rw[eQ cf,dY]
  have H1f:H1 h'.objs.size=some (ik h'.objs.size fo):=dY;have hok:HOk X.prog X.w H1 (h'.push fo):=λb u e=>by
   by_cases n3:b=h'.objs.size
   ·subst n3;rw[H1f] at e;cases e;exact oG (bO _ rfl)
   by_cases n2:b=c'
   ·subst n2;rw[H1c] at e;cases e;obtain⟨c2,oc,vs,t,e2,hoc,hd,hv⟩:=hrec;cases e2;exact⟨⟨b,oc,vs,t,rfl,bD _ hoc,hd,hv⟩,⟨oc,bD _ hoc⟩,λh1 h2 ⟨c2,oc,vs,t,e2,hoc,hd,hv⟩ k=>by cases e2;exact⟨b,oc,vs,t,rfl,k _ hoc,hd,hv⟩⟩
   by_cases n1:b=Pt
   ·subst n1;rw[H1P] at e;cases e;exact bD _ htb
   rw[H1o b n1 n2 n3] at e;refine (I.hok b u e).stay (λd v z q=>kp d v (λzz=>?_) q) (λd q=>?_) λd xs q=>?_
   ·rcases z with z | z
    ·exact n1 (z.symm.trans zz)
    ·rw[zz,hP] at z;cases z
   ·have:=jU _ _ q;rw[H1o d (λzz=>by rw[zz,hP] at q;cases q) this.1 this.2];exact q
   ·have:=jU _ _ q;rw[H1o d (λzz=>by rw[zz,hP] at q;cases q) this.1 this.2];exact q
  refine⟨.ref h'.objs.size,H1,?_,rfl,h h'.objs.size c' ctv hfn hc'n cf⟩;refine I.step (g':=s.gens) (d':=s.drawn) (t':=tk) (ch:=[]) (λ_ z=>nomatch z) (λb o _ _ _ e n=>kp b o (λz=>by rw[z,hP] at n;cases n) e) (λb o _ _ _ e n=>⟨o.slots,kp b o (λz=>by rw[z,hP] at n;cases n) e⟩) (λb o _ e n=>?_) (λb o _ e=>?_) (λb xs e=>?_) (λb o u e=>?_) (λb qs e=>?_) (λm hm=>(hm.extBut hx nl).push _) hok I.bare
  ·rw[H1o b (λz=>by rw[z,hP] at n;cases n) (ltc b o e).1 (ltc b o e).2];exact n
  ·by_cases z:b=Pt
   ·rw[z];exact⟨_,bD _ htb⟩
   ·exact⟨o,kp b o z e⟩
  ·rw[H1o b (λz=>by rw[z,hP] at e;cases e) (jU _ _ e).1 (jU _ _ e).2];exact e
  ·rw[H1o b (λz=>by rw[z,hP] at e;cases e) (jU _ _ e).1 (jU _ _ e).2];exact e
  ·by_cases z:b=Pt
   ·rw[z,hP] at e;cases e;exact⟨_,z▸H1P⟩
   ·exact⟨#[],by rw[H1o b z (jU _ _ e).1 (jU _ _ e).2,e];simp⟩
 ·refine kla_makeFunctionHit (mg:=X.mg) hcl I.ok.glob hg hcode (hh.code _ I.kIn) hPh ht hf hb λctv h' tk hk hsz=>?_;have hfn:H h'.objs.size=none:=I.hok.fresh hsz
  let fo:=nZ (X.env.qual++"<lambda>") params body scope y (jD X y) ((X.mg "__name__").getD .none) c0 ctv
  have kp:∀b o,s.heap.get? b=some o->(h'.push fo).get? b=some o:=λb o e=>bD _ (hk b o e);have hok:HOk X.prog X.w (upd H h'.objs.size (ik h'.objs.size fo)) (h'.push fo):=I.hok.laid kp hsz (oG (bO _ rfl));refine⟨.ref h'.objs.size,upd H h'.objs.size (ik h'.objs.size fo),?_,rfl,h h'.objs.size ctv hfn⟩;exact I.step (g':=s.gens) (d':=s.drawn) (t':=tk) (ch:=[]) (λ_ z=>nomatch z) (λb o _ _ _ e n=>kp b o e) (λb o _ _ _ e n=>⟨o.slots,kp b o e⟩) (λb o _ e n=>by rw[eQ (bE (bC (a9 e) hsz))];exact n) (λb o _ e=>⟨o,kp b o e⟩) (λb xs e=>by rw[eQ (gR e hfn)];exact e) (λb o u e=>by rw[eQ (gR e hfn)];exact e) (λb qs e=>⟨#[],by rw[eQ (gR e hfn),e];simp⟩) (λm hm=>(hm.keeps hk).push _) hok I.bare
end
end L2
namespace L2
open PySem PySem.Spec PyProof.Rows PySem.W
section
variable{X:Cx}
theorem QA{pins:List (Addr×Obj)}{σ:St}{H:Hp}{s:Shared}{Q:VK}{us:List Value}{vs:List V}{k:Nat}{f:Addr}{fd:FuncData}{ps:List Str}{sp:Sp}{i:Nat}{y:Str}{v0:V}(F:gF X.prog X.w X.K X.mg X.base je k f fd ps sp)(hr:Room k X.A)(hb:Binds X.K fd ps [])
  (I:Inv X pins σ H s) (r:Vals vs us) (hi:X.N[i]? =some y) (hv:σ[i]? =some (some v0)) (hky:X.env.kindOf y=some .cell) (hcy:X.env.cells.lookup y=some (jD X y)) (hfn:X.fn y=true)
  (h:H (jD X y)=none->∀(o0:Obj) (u0:Value),o0.data=.cell (some u0)->RelV v0 u0->sp vs (upd H (jD X y) (ik (jD X y) o0)) (λv H'=>H' (jD X y)=some (ik (jD X y) o0)/\Q v (hU H' (jD X y))) E0):
  wpAny (model X.prog X.w) X.A (call (.ref f) us) (EP X pins σ Q) X.xe s:=by
 obtain⟨m,hn,hl⟩:=I.loc;obtain⟨u0,r0,l⟩:=hl i y v0 hi hv (.inr (.inl hky));rcases l with ⟨z,_⟩ | ⟨_,c,ec,o0,ho,hd⟩
 ·rw[hky] at z;cases z
 rw[hcy] at ec;cases ec;have ha:H (jD X y)=none:=I.freeC y _ hcy;have hge:X.s₀.heap.objs.size<=jD X y:=I.ok.cab y _ hfn hcy;have q:=h ha o0 u0 hd r0;generalize ea:jD X y=a at *;have hok:HOk X.prog X.w (upd H a (ik a o0)) s.heap:=I.hok.track ha (oG ho);have nb:∀b o,X.base.get? b=some o->b≠a:=λb o e=>bE (bC (bC (a9 e) I.ok.bsz) hge);have nf:∀b∈j1 X.stack,b≠a:=λb hb z=>by
  subst z;rcases bA.mp (I.stkSub b hb) with e | hb
  ·exact I.cne y _ hcy (ea▸e)
  ·obtain⟨_,o,ho',_⟩:=I.ok.funs.mem hb;exact absurd (bC (a9 ho') hge) (cI _)
 have e0:Env0 X.prog X.w X.K X.mg X.base X.A X.stack s (upd H a (ik a o0)):=⟨I.ok.frames,I.ok.mod,λb o e=>⟨(I.bs b o e).1,by rw[eQ (nb b o e)];exact (I.bs b o e).2⟩,bR I.ok.bsz I.sz,I.stack,λb hb=>by rw[eQ (nf b hb)];exact I.stkFree b hb,hok,I.bare⟩;have hlen:(us++[]).length=ps.length:=by rw[cF,←r.length];exact F.len _ _ _ _ q
 have bt:=hb s us I.kIn hlen;rw[cF] at bt;refine wpAny_call (codeAny_mono (F.run X.A X.stack s _ ⟨us,[]⟩ us vs _ E0 hr e0 bt r q) λr s' hq=>?_);cases r with
 |error e=>exact False.elim hq
 |ok fl=>
  cases fl with
  |next=>exact False.elim hq
  |brk=>exact False.elim hq
  |cont=>exact False.elim hq
  |ret u=>
   obtain⟨v,H',os,bare,un,hok',rz,hca,q⟩:=hq;have ca:=ou hok' hca;refine I.after ⟨v,hU H' a,os,bare,⟨λb o e n hb hx=>?_,λb o e n hb hx=>?_,λb o e n hx=>?_,λb o e hx=>un.there b o e hx,λb xs e=>?_,λb o u e=>?_,λb qs e=>?_⟩,hok'.era_ (λz e=>by rw[hca] at e;cases e) (λxs e=>by rw[hca] at e;cases e),rz,q⟩
   ·by_cases z:b=a
    ·subst z;rw[ho] at e;cases e;exact ca
    ·exact un.keep b o e (by rw[eQ z];exact n) hb hx
   ·exact un.slot b o e (by rw[eQ (nf b hb)];exact n) hb hx
   ·by_cases z:b=a
    ·rw[z];exact mG
    ·rw[jq z];exact un.free b o e (by rw[eQ z];exact n) hx
   ·have z:b≠a:=gR e ha;rw[jq z];exact un.tups b xs (by rw[eQ z];exact e)
   ·have z:b≠a:=gR e ha;rw[jq z];exact un.frzs b o u (by rw[eQ z];exact e)
   ·have z:b≠a:=gR e ha;obtain⟨more,e'⟩:=un.tbls b qs (by rw[eQ z];exact e);exact⟨more,by rw[jq z];exact e'⟩
def F0(i:Nat)(a:Addr)(sp:Sp)(t:TA):TE:=λσ H Q=>t σ H λvs H1=>∃v0,σ[i]? =some (some v0)/\(H1 a=none->∀(o0:Obj) (u0:Value),o0.data=.cell (some u0)->RelV v0 u0->sp vs (upd H1 a (ik a o0)) (λv H'=>H' a=some (ik a o0)/\Q v (hU H' a)) E0)
theorem Tt{x:Str}{k k':Nat}{ps:List Str}{sp:Sp}{e:Expr}{es:List Expr}{t:TA}{p pos:Pos}(y:Str)(i:Nat)(D:Df X.prog X.w X.K X.mg X.base x k ps sp)(hr:Room k' X.A)(ha:As X (e::es) t)(hk:k<=k':=by decide)(hi:X.N[i]? =some y:=by rfl)(hky:X.env.kindOf y=some .cell:=by rfl)(hcy:X.env.cells.lookup y=some (jD X y):=by rfl)(hfn:X.fn y=true:=by rfl)(hg:Gl X x:=by rfl)
  (hdb:(x==("__debug__":Str))=false:=by decide) (he:starEach (e::es) X.env=(false,eval e X.env)::starEach es X.env:=by rfl) (hpl:(backTo pos (starEach es X.env)).any (·.1)=false:=by rfl):
  E X (.Call (.Name x p) (e::es) [] pos) (F0 i (jD X y) sp t):=by
 obtain⟨f,fd,F,hb,hm,kp⟩:=D.ex;refine⟨λpins s σ H Q I h=>?_⟩;refine dQ (nF I hg hm ?_ hdb);refine callWith_K (h₀:=X.base) I.ok.mod.kin kp (eT (ha.h pos pins s σ H _ I h) λus s1 ⟨vs,H1,I1,r,v0,hv,q⟩=>⟨I1.kIn,?_⟩) he hpl;exact QA F (hr.mono hk) hb I1 r hi hv hky hcy hfn q
def Calls(P:Program)(w:World)(K:Frag)(mg:Str->Option Value)(base:Heap)(k:Nat)(f:Addr)(vs:List V)(H:Hp)(Q:VK):Prop:=
 ∀(A:Around) (outer:List Env) (s:Shared) (us:List Value),Room k A->Env0 P w K mg base A outer s H->Vals vs us->codeAny (model P w) A (.call (.ref f) ⟨us,[]⟩) (CR je outer P w H s Q E0) s
def FnHO(H:Hp)(f:Addr):Prop:=∃(oc:Value) (od:Option Addr) (fd:FuncData) (sl:Array (Option Value)),H f=some (ik f ⟨oc,od,.func fd,sl⟩)
def XE(P:Program)(w:World)(K:Frag)(mg:Str->Option Value)(base:Heap)(k:Nat)(tv:TE)(t:TA):TE:=λσ H Q=>tv σ H λv H1=>∃f,v=.ref f/\FnHO H1 f/\t σ H1 λvs H2=>FnHO H2 f/\Calls P w K mg base k f vs H2 Q
theorem FnHO.at_{P:Program}{w:World}{H:Hp}{h:Heap}{f:Addr}(x:HOk P w H h)(e:FnHO H f):FnAt f h:=by
 obtain⟨oc,od,fd,sl,e⟩:=e;exact⟨oc,od,fd,sl,ou x e⟩
theorem PK{y:Str}{e:Expr}{es:List Expr}{t:TA}{tv:TE}{k k':Nat}{p pos:Pos}(hr:Room k' X.A)(hv:E X (.Name y p) tv)(ha:As X (e::es) t)(hk:k<=k':=by decide)
  (he:starEach (e::es) X.env=(false,eval e X.env)::starEach es X.env:=by rfl) (hpl:(backTo pos (starEach es X.env)).any (·.1)=false:=by rfl):E X (.Call (.Name y p) (e::es) [] pos) (XE X.prog X.w X.K X.mg X.base k tv t):=by
 refine⟨λpins s σ H Q I h=>?_⟩;refine dQ (eT (hv.h pins s σ H _ I h) λv s1 ⟨x,H1,I1,r1,f,ex,hf1,q⟩=>?_);subst ex;cases r1;refine callWith_F (hf1.at_ I1.hok) (eT (ha.h pos pins s1 σ H1 _ I1 q) λus s2 ⟨vs,H2,I2,r,hf2,hc⟩=>⟨hf2.at_ I2.hok,?_⟩) he hpl;refine wpAny_call (codeAny_mono (hc X.A X.stack s2 us (hr.mono hk) I2.env0 r) λr s' hq=>?_);cases r with
 |error e=>exact False.elim hq
 |ok fl=>
  cases fl with
  |ret u=>exact I2.after hq
  |next=>exact False.elim hq
  |brk=>exact False.elim hq
  |cont=>exact False.elim hq
end
end L2
namespace L2
open PySem PySem.Spec PyProof.Rows PySem.W
def qi(tabs:List Addr)(bm:Addr)(H:Hp):Prop:=(∀b∈tabs,H b=some (.tbl #[]))/\(∀b,b∉tabs->H b=none∨∃o u,H b=some (.frz o u))/\nS H bm
theorem Z1{P:Program}{w:World}{K:Frag}{mg mb:Str->Option Value}{k:Nat}{fa a:Addr}{fd:FuncData}{x:Str}{sp:Sp}{s₁:Shared}{vs:List Value}{ns:List Int}{tabs:List Addr}{bm:Addr}{ob:Obj}
  (KX:K.In s₁.heap) (hns:s₁.heap.Ns mainGlobals mg) (hb:s₁.heap.Ns builtinsNs mb) (hbb:∀x:Str,x≠"__name__"->mb x=bootBuiltins x) (hlim:s₁.heap.NoLimit) (hg:s₁.gens= #[])
  (hT:∀b∈tabs,isCodeTable s₁.heap b/\s₁.heap.get? b=some (tabObj #[])) (hTK:∀b∈tabs,K.lookup b=none)
  (hB:s₁.heap.get? bm=some ob) (hBK:K.lookup bm=none) (b4:ob.cls=.type "module") (b5:ob.dict=some builtinsNs) (b6:ob.data=.plain)
  (ha:s₁.heap.get? a=some {cls:=.type "list",data:=.seq vs.toArray}) (hi:IntsAre vs ns) (hl:ns.length<=sizeLine) (hr:Room k callerA)
  (F:∀base:Heap,K.In base->base.Ns mainGlobals mg->gF P w K mg base je k fa fd [x] sp) (hbind:∀(s:Shared) (u:Value),BindsTo s fd ⟨[u],[]⟩ [(x,u)])
  (hsp:∀H:Hp,qi tabs bm H->SqL K H a (ns.map V.int)->sp [.ref a] H (λv _=>v=.bl true) λ_ _ _=>False):
  codeAny (model P w) callerA (.call (.ref fa) ⟨[.ref a],[]⟩) (λr s'=>r=.ok (.ret (.bool true))/\OldK s₁.heap s'.heap/\s'.os=s₁.os/\AllBare s'.gens) s₁:=by
 have rv:=Ip hi;have lenV:=hi.length;have aT:a∉tabs:=λh=>by
  have:=(hT a h).2;rw[ha] at this;cases this
 have bT:bm∉tabs:=λh=>by
  have:=(hT bm h).2;rw[hB] at this;cases this;cases b6
 have ba:bm≠a:=λh=>by
  rw[h,ha] at hB;cases hB;cases b6
 have core:∀H:Hp,qi tabs bm H->SqL K H a (ns.map V.int)->HOk P w H s₁.heap->(∀b,b∉tabs->H b≠none->b=a∨b=bm)->(H a≠none->K.lookup a=none)->
   codeAny (model P w) callerA (.call (.ref fa) ⟨[.ref a],[]⟩) (λr s'=>r=.ok (.ret (.bool true))/\OldK s₁.heap s'.heap/\s'.os=s₁.os/\AllBare s'.gens) s₁:=by
  intro H hO hS hok hA hK;have base_of:∀{b:Addr} {o:Obj},s₁.heap.get? b=some o->H b=none->(lT s₁.heap H).get? b=some o:=λe n=>Xo e n;have cases_:∀b,H b=none∨b∈tabs∨b=a∨b=bm:=λb=>by
   by_cases h:b∈tabs
   ·exact .inr (.inl h)
   ·cases q:H b with
    |none=>exact .inl rfl
    |some u=>exact .inr (.inr (hA b h (by rw[q];simp)))
  have noA:∀{b:Addr} {o:Obj} {es:Array DictEntry} {ep:Nat},s₁.heap.get? b=some o->o.data=.dict es ep->H b=none:=λ{b o es ep} e d=>by
   rcases cases_ b with h | h | h | h
   ·exact h
   ·rw[(hT b h).2] at e;cases e;cases d
   ·rw[h,ha] at e;cases e;have d':Data.seq vs.toArray _=Data.dict es ep:=d;cases d'
   ·rw[h,hB] at e;cases e;rw[b6] at d;cases d
  have nsK:∀{b:Addr} {m:Str->Option Value},s₁.heap.Ns b m->(lT s₁.heap H).Ns b m:=λ{b m} ⟨o,es,ep,e,d,r⟩=>⟨o,es,ep,base_of e (noA e d),d,r⟩;have hKb:K.In (lT s₁.heap H):=λb o e=>base_of (KX b o e) (by
   rcases cases_ b with h | h | h | h
   ·exact h
   ·rw[hTK b h] at e;cases e
   ·cases q:H b with
    |none=>rfl
    |some u=>
     subst h;rw[hK (by rw[q];simp)] at e;cases e
   ·rw[h,hBK] at e;cases e)
  have hM:Mod K mg (lT s₁.heap H):=⟨hKb,nsK hns,⟨mb,nsK hb,hbb⟩,let ⟨mc,h1,h2⟩:=hlim;⟨mc,nsK h1,h2⟩⟩;have e0:Env0 P w K mg (lT s₁.heap H) callerA [] s₁ H:=⟨rfl,hM,λb o e=>aEV e,Nat.le_of_eq (az3 _ _),trivial,λb hb=>absurd (show b∈([]:List Addr) from hb) (by simp),hok,.of_eq hg⟩;refine codeAny_mono ((F _ hKb (nsK hns)).run callerA [] s₁ H ⟨[.ref a],[]⟩ [.ref a] [.ref a] _ _ hr e0 (hbind s₁ (.ref a)) (.cons rfl .nil) (hsp H hO hS)) λr s' h=>?_
  cases r with
  |error e=>exact False.elim h
  |ok fl=>
   cases fl with
   |next=>exact False.elim h
   |brk=>exact False.elim h
   |cont=>exact False.elim h
   |ret u=>
    obtain⟨v,H',os,bare,un,hok',r',q⟩:=h;have q':v=.bl true:=q;subst q';obtain rfl:u=Value.bool true:=r';have kept:∀b o,b∉tabs->s₁.heap.get? b=some o->s'.heap.get? b=some o:=λb o nb e=>by
     cases q:H b with
     |none=>exact un.keep b o e q (by intro z;exact absurd (show b∈([]:List Addr) from z) (by simp)) (by simp)
     |some u=>
      rcases hO.2.1 b nb with z | ⟨ob',xs,z⟩
      ·rw[q] at z;cases z
      ·have z2:=un.frzs b ob' _ z;obtain⟨e1,_⟩:=hok b _ z;obtain⟨e2,_⟩:=hok' b _ z2;rw[e] at e1;cases e1;exact e2
    have grown:∀b,b∈tabs->∃ps,s'.heap.get? b=some (tabObj ps):=λb hb=>by
     obtain⟨more,z⟩:=un.tbls b #[] (hO.1 b hb);exact⟨_,hok' b _ z⟩
    refine⟨rfl,⟨λb o e=>?_,λb o e=>?_⟩,os,bare⟩
    ·by_cases hb:b∈tabs
     ·obtain⟨ps,hp⟩:=grown b hb;rw[(hT b hb).2] at e;cases e;exact .inr (.inl ⟨(hT b hb).1,rfl,#[],ps,rfl,by rw[Array.empty_append];exact hp⟩)
     ·exact .inl (kept b o hb e)
    ·by_cases hb:b∈tabs
     ·obtain⟨ps,hp⟩:=grown b hb;exact⟨_,hp⟩
     ·exact⟨o,kept b o hb e⟩
 have tOk:∀(H:Hp) (b:Addr),b∈tabs->ObjOk P w H s₁.heap b (.tbl #[]):=λH b hb=>(hT b hb).2
 let G:Hp->Hp:=λH0 b=>if b∈tabs then some (.tbl #[]) else if b=bm then some (.frz ob (ik bm ob)) else H0 b
 have Gt:∀{H0:Hp} {b:Addr},b∈tabs->G H0 b=some (.tbl #[]):=λhb=>if_pos hb;have Gb:∀{H0:Hp},G H0 bm=some (.frz ob (ik bm ob)):=(if_neg bT).trans (if_pos rfl);have Go:∀{H0:Hp} {b:Addr},b∉tabs->b≠bm->G H0 b=H0 b:=λh1 h2=>(if_neg h1).trans (if_neg h2);have only:∀H0:Hp,(∀b,H0 b=none∨∃o u,H0 b=some (.frz o u))->qi tabs bm (G H0):=λH0 h=>⟨λb hb=>Gt hb,λb hb=>by
  by_cases e:b=bm
  ·subst e;exact .inr ⟨_,_,Gb⟩
  ·rw[Go hb e];exact h b,ob,_,Gb,b4,b5,b6⟩
 have oks:∀H0:Hp,(∀b u,b∉tabs->b≠bm->H0 b=some u->ObjOk P w (G H0) s₁.heap b u)->HOk P w (G H0) s₁.heap:=λH0 h b u z=>by
  by_cases hb:b∈tabs
  ·rw[Gt hb] at z;cases z;exact tOk _ b hb
  ·by_cases e:b=bm
   ·subst e;rw[Gb] at z;cases z;exact⟨hB,oG hB⟩
   ·rw[Go hb e] at z;exact h b u hb e z
 cases hk:K.lookup a with
 |some o=>
  have e:=KX a o hk;rw[ha] at e;cases e;refine core (G λ_=>none) (only _ λb=>.inl rfl) (.inr ⟨_,vs.toArray,_,hk,rfl,rfl,rfl,by rw[bJ,lenV];exact hl,by simpa using rv⟩) (oks _ λb u _ _ z=>by cases z) (λb hb z=>?_) λz=>absurd (Go (H0:=λ_=>none) aT ba.symm) z;by_cases e:b=bm
  ·exact .inr e
  ·exact absurd (Go (H0:=λ_=>none) hb e) z
 |none=>
  refine core (G λb=>if b=a then some (.frz {cls:=.type "list",data:=.seq vs.toArray} (.lst (ns.map V.int))) else none) (only _ λb=>?_) (.inl (.inr ⟨{cls:=.type "list",data:=.seq vs.toArray},(Go (H0:=λb=>if b=a then some (.frz {cls:=.type "list",data:=.seq vs.toArray} (.lst (ns.map V.int))) else none) aT ba.symm).trans (if_pos rfl)⟩)) (oks _ λb u hb nb z=>?_) (λb hb z=>?_) λ_=>hk
  ·by_cases e:b=a
   ·exact .inr ⟨_,_,if_pos e⟩
   ·exact .inl (if_neg e)
  ·by_cases e:b=a
   ·have z:=(if_pos e).symm.trans z;cases z;subst e;exact⟨ha,by rw[aY];exact hl,vs,_,rv,ha⟩
   ·have z:=(if_neg e).symm.trans z;cases z
  ·by_cases e:b=bm
   ·exact .inr e
   ·by_cases e2:b=a
    ·exact .inl e2
    ·exact absurd ((Go (H0:=λb=>if b=a then some (.frz {cls:=.type "list",data:=.seq vs.toArray} (.lst (ns.map V.int))) else none) hb e).trans (if_neg e2)) z
theorem walk_ofT{l:OpenLaw}{n k:Nat}{q:Program}{loose:List Str}{XP:(Str->Option Value)->Heap->Prop}{YP:World->Heap->Prop}{d:DefRec}{K:Params->Frag}{sp:World->Sp}{x:Str}{tabs:World->List Addr}{bm:Addr}
  (hn:l.most=some n) (hn2:n<=sizeLine) (hdf:d.params.defaults=[]) (hr:Room k callerA)
  (hY:∀(w:World) (h:Heap),YP w h->(K w.params).In h)
  (hTb:∀(w:World) (h:Heap) (mean:ExcName->Option Value) (mg mb:Str->Option Value),(K w.params).In h->Top q (looseW q loose) mean mg mb h->∀b∈tabs w,(isCodeTable h b/\h.get? b=some (tabObj #[]))/\(K w.params).lookup b=none)
  (hBm:∀(w:World) (h:Heap) (mg:Str->Option Value),(K w.params).In h->h.Ns mainGlobals mg->mg "__builtins__"=some (.ref bm)/\(K w.params).lookup bm=none)
  (F:∀(w:World) (mg:Str->Option Value) (fa:Addr) (h:Heap),(K w.params).In h->h.Ns mainGlobals mg->mg d.name=some (.ref fa)->
   ∃fd:FuncData,(∀(s:Shared) (u:Value),BindsTo s fd ⟨[u],[]⟩ [(x,u)])/\
    ∀base:Heap,(K w.params).In base->base.Ns mainGlobals mg->gF l.prog w (K w.params) mg base je k fa fd [x] (sp w))
  (hsp:∀(w:World) (H:Hp) (a:Addr) (ns:List Int),ns.length<=n->qi (tabs w) bm H->SqL (K w.params) H a (ns.map V.int)->sp w [.ref a] H (λv _=>v=.bl true) λ_ _ _=>False):
  WalkO q loose XP YP l.row.toRowW d [] (λf vs=>PySem.call f vs):=by
 refine Att.attach_call hn hdf λw s₀ s₁ mg mb fa o pm cd doc a vs ns G Y ho hd hcd hmg hobj hints hlen hg=>?_;have KX:=hY w _ Y;obtain⟨fd,hb,hF⟩:=F w mg fa _ KX G.T.g hmg;have hT:=hTb w _ _ _ _ KX G.T;obtain⟨bm',ob,a1,a2,a3,a4,a5,a6⟩:=G.T.bmain;obtain⟨c1,c2⟩:=hBm w _ _ KX G.T.g;rw[c1] at a1;cases a1;exact Z1 KX G.T.g G.T.b G.T.builtins G.T.nolimit hg (λb hb=>(hT b hb).1) (λb hb=>(hT b hb).2) a3 c2 a4 a5 a6 hobj hints (bR hlen hn2) hr hF hb λH hO hS=>hsp w H a ns hlen hO hS
theorem O8{K:Frag}{mg:Str->Option Value}{h:Heap}{c Pt bm:Addr}{od:Option Addr}{sl:Array (Option Value)}{v0 v1 v2 v3 v4 v5 v6 v8 v12 v13 v14 v15 v16 v17:Value}{fl tx:Int}{tg tt tf:Tok}{inF:Bool}{file:Str}(X:K.In h)(G:h.Ns mainGlobals mg)
  (l:K.lookup c=some ⟨.type "code",od,.fields #[v0,v1,v2,v3,v4,v5,v6,.int fl tg,v8,.bool inF,.int tx tt,.ref Pt,v12,v13,v14,v15,v16,v17,.str file tf],sl⟩) (ne:c≠Pt)
  (b1:nsIn K mainGlobals "__builtins__"=some (some (.ref bm))) (b2:bm≠builtinsNs):mT K mg c Pt bm:=
 ⟨λh' X'=>⟨_,_,file,tf,fl,tg,inF,tx,tt,X' _ _ l,rfl,rfl,rfl,rfl,rfl,rfl,rfl,rfl,ne⟩,mg_of X G b1,b2⟩
section
variable{X:Cx}{k:Nat}{o i value:Expr}{td ty tv:TE}{pos pos':Pos}
theorem yt(hr:Room k X.A)(hi:E X i ty)(ho:E X o td)(hm:behindInMarks .NotIn o=false:=by rfl):T X (.Compare i [.NotIn] [o] pos) (L2.tB (Fe ty td)):=⟨aJN (Zx (A6 hr) hi.h ho.h) hm⟩
theorem B6(hr:Room k X.A)(ho:E X o td)(hi:E X i ty)(hv:E X value tv)(hs:swapsWith value (some (.Subscript o i pos')) pos.line X.env=pure false:=by rfl):S X (.Assign [.Subscript o i pos'] value pos) (G2 td ty tv):=⟨Ra (A6 hr) ho.h hi.h hv.h hs⟩
end
end L2
namespace L2
open PySem PySem.Spec PyProof.Rows PySem.SeqAt
section
variable{X:Cx}
theorem tI(hu:X.A.units+64<cLine):gE X (compareOp .Eq) (λx y H Q=>∃(a b:Addr) (vs:List V),x=.ref a/\y=.ref b/\SqL X.K H a vs/\SqL X.K H b []/\Q (.bl (decide (vs=[]))) H):=by
 refine⟨λpins s σ H x y v u Q I rx ry h=>?_⟩;obtain⟨a,b,vs,rfl,rfl,ha,hb,q⟩:=h;cases rx;cases ry;obtain⟨its,rv,pl,_⟩:=I.list ha;obtain⟨its',rv',pl',_⟩:=I.list hb;cases rv';have e:=rv.length;cases vs with
 |nil=>
  cases rv;refine SeqAt.RcAt.lists (e:=λ_=>true) pl.isList pl'.isList rfl ⋯ (λi h1 h2=>SeqAt.EqAt.same _) _ _ _ _ ?_;exact⟨.bl true,H,I,by show Value.bool _=Value.bool true;congr 1,q⟩
 |cons v0 vs=>
  refine SeqAt.RcAt.lists_lengths pl.isList pl'.isList (by rw[bJ,←e];rfl) ⋯ _ _ _ _ ?_;exact⟨.bl false,H,I,rfl,q⟩
end
end L2
namespace L2
open PySem PySem.Spec PyProof.Rows PySem.SeqAt
section
variable{js:List Nat}{σ:St}{tt:TT}{te:TE}{Q:VK}{H1:Hp}
variable{X:Cx}
end
theorem eC{X:Cx}{st:Stmt}{rest:List Stmt}{t u:TS}(h1:S X st t)(h2:Ss X rest u):Ss X (st::rest) (let r:=u;qb t r):=Sl h1 h2
theorem iN{X:Cx}{st:Stmt}{rest:List Stmt}{t u:TS}(h1:S X st t)(h2:Ss X rest u):Ss X (st::rest) (let r:=u;FC t r):=Zj h1 h2
theorem E2{J:It}{js:List Nat}{σ:St}{tt:TT}{te:TE}{Q:VK}{H1:Hp}(h:kN J js σ tt te Q H1):DD J 1 js (jy 0) σ tt te Q H1:=by
 intro D hD;obtain⟨W,h0,hs⟩:=h D hD;refine⟨W,h0,λi m H2 w=>?_⟩;rcases hs i m H2 w with z | ⟨hg,z⟩
 ·exact .inl z
 ·refine .inr ⟨hg,λv H3 y τ hτ=>?_⟩;obtain⟨u,rfl⟩:∃u,τ=[u]:=List.length_eq_one_iff.mp hτ;exact⟨⟨[some v],rfl,rfl⟩,z v H3 y⟩
section
variable{X:Cx}{elt iter:Expr}{x y:Str}{px py pos spos:Pos}{ifs:List Expr}{scope:Scope}{N':List Str}{js:List Nat}{tt:TT}{te:TE}{wi:TI}
theorem JP{cl:List (Str×Addr)}{C:Addr}{ex:List Addr}{pins:List (Addr×Obj)}{s:Shared}{H:Hp}(hx:scope.names.lookup x=some .local)(hnd:(x::N').Nodup):Gt (ip X ([x]++N') scope cl C ex pins s H) (.Name x px) (jy 0):=by
 have hl:(relabel scope X.env).names.lookup x=some .local:=by rw[BQ,hx];rfl
 exact⟨GS hnd rfl (.inl hl) (.inr hl)⟩
theorem i9(N':List Str)(js:List Nat)(hi:Il X (.Name x px) iter wi)
  (ht:∀(cl:List (Str×Addr)) (C:Addr) (ex:List Addr) (pins:List (Addr×Obj)) (s:Shared) (H:Hp),Fs (ip X (x::N') scope cl C ex pins s H) ifs tt)
  (he:∀(cl:List (Str×Addr)) (C:Addr) (ex:List Addr) (pins:List (Addr×Obj)) (s:Shared) (H:Hp),E (ip X (x::N') scope cl C ex pins s H) elt te)
  (hcl:∃cl,jH X scope cl:=by exact zm rfl rfl rfl rfl) (hx:scope.names.lookup x=some .local:=by rfl) (hnd:(x::N').Nodup:=by decide +kernel) (hN:js.map (λj=>X.N[j]?)=N'.map some:=by rfl)
  (hk:N'.all (λy=>(X.env.kindOf y==some .cell)||(X.env.kindOf y==some .free))=true:=by rfl) (hf:N'.all (λy=>scope.names.lookup y==some .free)=true:=by rfl) (hc:X.calm=true:=by rfl)
  (hs:∀x,foldedSetIterable iter X.env x=pure x:=by intro _;rfl):E X (.ListComp elt [⟨.Name x px,iter,ifs,0⟩] scope pos) (FN wi js tt te):=by
 obtain⟨cl,hcl⟩:=hcl;refine⟨λpins s σ H Q I h=>?_⟩;rw[eval_ListComp];refine wpAny_comprehension_free (use:=none) rfl hs hcl.is hcl.kind hcl.names (eT (hi.h pins s σ H _ I h) λxv s₁ h₁=>eT h₁ λitv s₂ h₂=>?_);obtain⟨it,fp,tn,J,H2,rfl,I2,T,st,hfp,q⟩:=h₂;refine CH (xs:=[x]) (g:=jy 0) (RR:=λacc C=>compPost (model X.prog X.w) X.A X.xe none (EP X pins σ Q) acc C) hcl hnd hN hk hf hc (λ_ _ _ _ _=>(JP hx hnd).h) (λC ex pins s H=>(ht cl C ex pins s H).h) (λC ex pins s H=>(he cl C ex pins s H).h) I2 T st hfp (E2 q) ?_
 intro D C s' H' m I' hC0 hCL hCs hCc hCp hn hq;refine⟨m,hn,λh' sb=>⟨.ref D,H',?_,rfl,hq⟩⟩;exact I'.turned (t':=s'.toks) (λb o hb e=>(sb.2 b hb).trans e) hC0 hCL (.inr hCs) hCc hCp
theorem nG(i:Nat)(N':List Str)(js:List Nat)(hi:Il X (.Name x px) iter wi)
  (ht:∀(cl:List (Str×Addr)) (C:Addr) (ex:List Addr) (pins:List (Addr×Obj)) (s:Shared) (H:Hp),Fs (ip X (x::N') scope cl C ex pins s H) ifs tt)
  (he:∀(cl:List (Str×Addr)) (C:Addr) (ex:List Addr) (pins:List (Addr×Obj)) (s:Shared) (H:Hp),E (ip X (x::N') scope cl C ex pins s H) elt te)
  (hXN:X.N.Nodup) (hsw:swapsWith (.ListComp elt [⟨.Name x px,iter,ifs,0⟩] scope pos) (some (.Name y py)) spos.line X.env=pure true:=by rfl)
  (hiN:X.N[i]? =some y:=by rfl) (hy:X.env.scope.names.lookup y=some .local:=by rfl)
  (hcl:∃cl,jH X scope cl:=by exact zm rfl rfl rfl rfl) (hx:scope.names.lookup x=some .local:=by rfl) (hnd:(x::N').Nodup:=by decide +kernel) (hN:js.map (λj=>X.N[j]?)=N'.map some:=by rfl)
  (hk:N'.all (λy=>(X.env.kindOf y==some .cell)||(X.env.kindOf y==some .free))=true:=by rfl) (hf:N'.all (λy=>scope.names.lookup y==some .free)=true:=by rfl) (hc:X.calm=true:=by rfl)
  (hs:∀x,foldedSetIterable iter X.env x=pure x:=by intro _;rfl):S X (.Assign [.Name y py] (.ListComp elt [⟨.Name x px,iter,ifs,0⟩] scope pos) spos) (nE (FN wi js tt te) (jy i)):=by
 obtain⟨cl,hcl⟩:=hcl;refine⟨λpins s σ H D I h=>?_⟩;rw[exec_Assign_Name_used _ _ _ _ hsw];refine dG (wpAny_standAt (dG ?_));show wpAny _ X.A (do let _ ←comprehension (.ListComp elt [⟨.Name x px,iter,ifs,0⟩] scope pos) scope X.env _ (newList []) false (eval iter X.env) (some (assign (.Name y py) X.env))) _ _ s
 refine dG (dH (wpAny_comprehension_free (use:=some (assign (.Name y py) X.env)) (Q:=λ_ s'=>SP X pins D .next s') rfl hs hcl.is hcl.kind hcl.names ?_) (λ_ s' hq=>dR (dR hq)) λ_ _ z=>z);refine eT (hi.h pins s σ H _ I h) λxv s₁ h₁=>eT h₁ λitv s₂ h₂=>?_;obtain⟨it,fp,tn,J,H2,rfl,I2,T,st,hfp,q⟩:=h₂;refine CH (xs:=[x]) (g:=jy 0) (Q:=λv H'=>D.nx (σ.set i (some v)) H') (RR:=λacc C=>compPost (model X.prog X.w) X.A X.xe (some (assign (.Name y py) X.env)) (λ_ s'=>SP X pins D .next s') acc C) hcl hnd hN hk hf hc (λ_ _ _ _ _=>(JP hx hnd).h) (λC ex pins s H=>(ht cl C ex pins s H).h) (λC ex pins s H=>(he cl C ex pins s H).h) I2 T st hfp (E2 q) ?_
 intro D' C s' H' m I' hC0 hCL hCs hCc hCp hn hq;show wpAny _ _ (assign (.Name y py) X.env (.ref D')) _ _ s';refine wpAny_assign_Name (Ef I' hXN hiN (.inl hy) (v:=.ref D') rfl (λs3 I3 sb3=>?_) (.inr hy));obtain⟨a3,sb3,e3⟩:=sb3;have hCa:C≠a3:=by
  rcases e3 with e3 | e3
  ·rw[e3];exact hCL
  ·exact λz=>hCc y a3 e3 z.symm
 refine⟨m,hn.sameBut sb3 hCa,λh' sb=>⟨σ.set i (some (.ref D')),H',?_,hq⟩⟩;exact I3.turned (t':=s3.toks) (λb o hb e=>(sb.2 b hb).trans e) hC0 hCL (.inr hCs) hCc hCp
variable{e e1 e2 e3:Expr}{t t1 t2 t3:TE}
theorem A1(h:E X e t)(he':starEach (e::[]) X.env=(false,eval e X.env)::starEach [] X.env:=by rfl):As X [e] (ju t jt):=aC h aN he'
theorem A2(h1:E X e1 t1)(h2:E X e2 t2)(he1':starEach (e1::[e2]) X.env=(false,eval e1 X.env)::starEach [e2] X.env:=by rfl)(he2':starEach (e2::[]) X.env=(false,eval e2 X.env)::starEach [] X.env:=by rfl):As X [e1,e2] (ju t1 (ju t2 jt)):=aC h1 (aC h2 aN he2') he1'
theorem A3(h1:E X e1 t1)(h2:E X e2 t2)(h3:E X e3 t3)(he1':starEach (e1::[e2,e3]) X.env=(false,eval e1 X.env)::starEach [e2,e3] X.env:=by rfl)(he2':starEach (e2::[e3]) X.env=(false,eval e2 X.env)::starEach [e3] X.env:=by rfl)(he3':starEach (e3::[]) X.env=(false,eval e3 X.env)::starEach [] X.env:=by rfl):As X [e1,e2,e3] (ju t1 (ju t2 (ju t3 jt))):=aC h1 (aC h2 (aC h3 aN he3') he2') he1'
end
noncomputable def Y0{X x pos}:=@v_ X x pos 0
noncomputable def Y1{X x pos}:=@v_ X x pos 1
noncomputable def Y2{X x pos}:=@v_ X x pos 2
noncomputable def Y3{X x pos}:=@v_ X x pos 3
noncomputable def Y4{X x pos}:=@v_ X x pos 4
noncomputable def Y5{X x pos}:=@v_ X x pos 5
noncomputable def Y6{X x pos}:=@v_ X x pos 6
noncomputable def Y7{X x pos}:=@v_ X x pos 7
noncomputable def Y8{X x pos}:=@v_ X x pos 8
noncomputable def Y9{X x pos}:=@v_ X x pos 9
abbrev Dm(P:Program)(w:World)(mg:Str->Option Value)(base:Heap){K:FG}{C:Addr}{m qual:Str}{st:Stmt}{ps:List Str}(_:FnM K C m qual st ps)(k:Nat)(sp:Sp):Prop:=fZ P w K mg base C m k ps sp
noncomputable def iv(σ:St)(i:Nat):Int:=match σ[i]? with
 |some (some (.int n))=>n
 |_=>0
def yl(K:FG)(C:Addr):Prop:=∃(nm q:Str) (N:Addr) (bs:List Value) (hdct:Bool) (sn:List Str) (sub:List Value) (ab:Bool) (col:Option Bool) (dd:Option Addr) (k0 k1 k2 k3 k5:Option Value) (nid:String) (o:Obj) (es:Array DictEntry) (ep:Nat),
 K.lookup C=some (excClassObj nm q C N bs [.type "object"] hdct sn sub ab col dd k0 k1 k2 k3 k5 nid)/\K.lookup N=some o/\o.data=.dict es ep/\StrKeys es/\nsFind es "__eq__"=none/\nsFind es "__ne__"=none
theorem Xw{K:FG}{C N:Addr}{nm q:Str}{bs:List Value}{hdct:Bool}{sn:List Str}{sub:List Value}{ab:Bool}{col:Option Bool}{dd od:Option Addr}{k0 k1 k2 k3 k5:Option Value}{nid:String}{oc:Value}{es:List DictEntry}{ep:Nat}{sl:Array (Option Value)}
  (h1:K.lookup C=some (excClassObj nm q C N bs [.type "object"] hdct sn sub ab col dd k0 k1 k2 k3 k5 nid)) (h2:K.lookup N=some ⟨oc,od,.dict es.toArray ep,sl⟩)
  (h3:es.all (λe=>match e.key with | .str _ _=>true | _=>false)=true) (h4:(nsFind es.toArray "__eq__").isNone=true) (h5:(nsFind es.toArray "__ne__").isNone=true):yl K C:=by
 refine⟨nm,q,N,bs,hdct,sn,sub,ab,col,dd,k0,k1,k2,k3,k5,nid,_,es.toArray,ep,h1,h2,rfl,λe he=>?_,Option.isNone_iff_eq_none.mp h4,Option.isNone_iff_eq_none.mp h5⟩;have z:=cA.mp h3 e (by simpa using he);revert z;cases e.key<;>simp
section
variable{X:Cx}
theorem vz(hu:X.A.units+64<cLine):gE X (compareOp .Eq) (λx y H Q=>∃(a C dx:Addr) (fs:List (Str×V)),x=.ref a/\y=.ref a/\H a=some (.ins C dx fs)/\yl X.K C/\Q (.bl true) H):=by
 refine⟨λpins s σ H x y v u Q I rx ry h=>?_⟩;obtain⟨a,C,dx,fs,rfl,rfl,ha,⟨nm,q,N,bs,hdct,sn,sub,ab,col,dd,k0,k1,k2,k3,k5,nid,o,es,ep,h1,h2,h3,h4,h5,h6⟩,qq⟩:=h;cases rx;cases ry;obtain⟨mA,O,_⟩:=pI I.hok ha;obtain⟨hh,g,d,t,os⟩:=s;exact compareOp_eq_same PySem.F.cmp_object ⟨_,nm,q,N,bs,hdct,sn,sub,ab,col,dd,k0,k1,k2,k3,k5,nid,λn=>nsFind es n,O.obj,rfl,I.kIn _ _ h1,⟨o,es,ep,I.kIn _ _ h2,h3,h4,λ_=>rfl⟩,h5,h6⟩ ⋯ ⟨.bl true,H,I,rfl,qq⟩
theorem xC(hu:X.A.units+64<cLine):gE X (compareOp .Eq) (λx y H Q=>∃(a b:Addr) (ps:List Addr),x=.ref a/\y=.ref b/\SqT X.K H a (ps.map V.ref)/\SqT X.K H b (ps.map V.ref)/\Q (.bl true) H):=by
 refine⟨λpins s σ H x y v u Q I rx ry h=>?_⟩;obtain⟨a,b,ps,rfl,rfl,ha,hb,q⟩:=h;cases rx;cases ry;obtain⟨its,rv,ht,_⟩:=I.tuple ha;obtain⟨its',rv',ht',_⟩:=I.tuple hb;cases oQ rv;cases oQ rv';refine SeqAt.eq_tupleAt (e:=λ_=>true) ht ht' ⋯ (λi h1 h2=>SeqAt.EqAt.same _) ?_;exact⟨.bl true,H,I,by show Value.bool _=Value.bool true;congr 1;simp,q⟩
end
end L2
namespace L2
open PySem PySem.Spec PyProof.Rows
abbrev Dx(P:Program)(w:World)(base:Heap){K:PySem.W.Frag}{mg:Str->Option Value}{x:Str}{st:Stmt}{ps:List Str}(_:Fn K mg x st ps)(k:Nat)(sp:Sp):Prop:=Df P w K mg base x k ps sp
end L2
namespace K61
open PySem PySem.Spec PyProof.Rows L2 KM
noncomputable def top(i:Nat):Stmt:=PySem.Challenge.pw_fivefields_k61_books_hold.main.body.getD i (.Pass ⟨0,0,0,0⟩)
noncomputable abbrev KC:Stmt:=gA (top 71) 0
noncomputable abbrev Ia:Stmt:=gA (top 72) 0
noncomputable abbrev Jt:Stmt:=gA (top 72) 1
noncomputable abbrev nK:Stmt:=gA (top 73) 0
noncomputable abbrev Gc:Stmt:=gA (top 73) 1
noncomputable abbrev Jy:Stmt:=gA (top 74) 0
noncomputable abbrev Ht:Stmt:=gA (top 74) 1
noncomputable abbrev Fh:Stmt:=gA (top 75) 0
noncomputable abbrev Gy:Stmt:=gA (top 76) 0
noncomputable abbrev HE:Stmt:=gA (top 76) 1
noncomputable abbrev DS:Stmt:=gA (top 77) 0
noncomputable abbrev IG:Stmt:=gA (top 77) 1
noncomputable abbrev JJ:Stmt:=gA (top 78) 0
noncomputable abbrev IH:Stmt:=gA (top 78) 1
noncomputable abbrev KJ:Stmt:=gA (top 97) 0
noncomputable abbrev IQ:Stmt:=gA (top 97) 5
noncomputable abbrev G5:Stmt:=gA (top 97) 4
noncomputable abbrev Eu:Stmt:=gA (top 97) 8
noncomputable abbrev Gu:Stmt:=gA (top 97) 7
noncomputable abbrev IX:Stmt:=gA (top 97) 6
noncomputable abbrev Hs:Stmt:=gA (top 109) 1
noncomputable abbrev GN:Stmt:=gA (top 109) 1
noncomputable abbrev Kr:Stmt:=gA (top 113) 2
noncomputable abbrev E6:Stmt:=gA (top 114) 2
noncomputable abbrev JW:Stmt:=gA (top 115) 2
noncomputable abbrev JN:Stmt:=gA (top 116) 2
noncomputable abbrev Gd:Stmt:=gA (top 109) 2
noncomputable abbrev IP:Stmt:=gA (top 109) 2
noncomputable abbrev DY:Stmt:=gA (top 113) 3
noncomputable abbrev HR:Stmt:=gA (top 114) 3
noncomputable abbrev FK:Stmt:=gA (top 115) 3
noncomputable abbrev FV:Stmt:=gA (top 116) 3
noncomputable abbrev IT:Stmt:=gA (top 112) 0
noncomputable abbrev JA:Stmt:=gA (top 113) 0
noncomputable abbrev HW:Stmt:=gA (top 114) 0
noncomputable abbrev GL:Stmt:=gA (top 115) 0
noncomputable abbrev KO:Stmt:=gA (top 116) 0
noncomputable abbrev FY:Stmt:=gA (top 109) 0
noncomputable abbrev IM:Stmt:=gA (top 112) 1
noncomputable abbrev DW:Stmt:=gA (top 113) 1
noncomputable abbrev Gf:Stmt:=gA (top 114) 1
noncomputable abbrev EW:Stmt:=gA (top 115) 1
noncomputable abbrev GT:Stmt:=gA (top 116) 1
noncomputable def iZ(y:Int):Bool:=decide (y%4=0)&&(!decide (y%100=0)||decide (y%400=0))
noncomputable def mb(y s:Int):Int:=(y+s-1) / s
noncomputable def db(y:Int):Int:=365*y+(mb y 4-mb y 100+mb y 400)
noncomputable def lasts:List Int:=[31,28,31,30,31,30,31,31,30,31,30,31]
noncomputable def jx(y:Int):Int:=if iZ y=true then 1 else 0
noncomputable def fC(y m:Int):Int:=if m=2 then 28+jx y else lasts.getD (m-1).toNat 0
theorem Fw(y:Int):iZ y=true↔(y%4=0/\(y%100≠0∨y%400=0)):=by
 unfold iZ;simp
theorem E8{y:Int}(h:y%4=0/\(y%100≠0∨y%400=0)):iZ y=true:=(Fw y).mpr h
theorem Ie{y:Int}(h:¬(y%4=0/\(y%100≠0∨y%400=0))):iZ y=false:=by
 cases e:iZ y
 ·rfl
 ·exact absurd ((Fw y).mp e) h
theorem IC(y:Int):0<=jx y/\jx y<=1:=by
 unfold jx;split<;>omega
theorem oy(y:Int):db y=365*y+((y+3) / 4-(y+99) / 100+(y+399) / 400):=by
 have e1:y+4-1=y+3:=⋯;have e2:y+100-1=y+99:=⋯;have e3:y+400-1=y+399:=⋯;unfold db mb;rw[e1,e2,e3]
theorem IU(y q:Int):db (y+400*q)=db y+146097*q:=by rw[oy,oy];omega
theorem OV(y q:Int):jx (y+400*q)=jx y:=by
 have e:iZ (y+400*q)=iZ y:=by
  unfold iZ;rw[show (y+400*q)%4=y%4 by omega,show (y+400*q)%100=y%100 by omega,show (y+400*q)%400=y%400 by omega]
 unfold jx;rw[e]
theorem ud:∀r:Nat,r<400->db ((r:Int)+1)-db (r:Int)=365+jx (r:Int):=by decide +kernel
theorem rW(y:Int):db (y+1)-db y=365+jx y:=by
 have z:=ud (y%400).toNat ⋯;obtain⟨q,e⟩:∃q,y=((y%400).toNat:Int)+400*q:=⟨y / 400,⋯⟩;generalize ((y%400).toNat:Int)=r at z e;rw[e,show r+400*q+1=r+1+400*q by omega,IU,IU,OV];omega
theorem ER{m:Int}(h1:1<=m)(h2:m<=12):iF (lasts.map V.int) (m-1)=some (V.int (lasts.getD (m-1).toNat 0)):=by
 have hk:(m-1).toNat<12:=⋯;have e:m-1=(((m-1).toNat:Nat):Int):=⋯;rw[e];refine mH ?_;rw[bQ];generalize (m-1).toNat=j at hk
 match j,hk with
 |0,_ | 1,_ | 2,_ | 3,_ | 4,_ | 5,_ | 6,_ | 7,_ | 8,_ | 9,_ | 10,_ | 11,_=>rfl
 |n+12,h=>exact absurd h ⋯
noncomputable def kJ(y:Int):Nat->Int
 |0=>0
 |n+1=>kJ y n+fC y ((n:Int)+1)
noncomputable def ahead(y m:Int):Int:=kJ y (m-1).toNat
theorem rB{y m:Int}(h:1<=m):ahead y (m+1)=ahead y m+fC y m:=by
 have e:(m+1-1).toNat=(m-1).toNat+1:=⋯;have e2:(((m-1).toNat:Nat):Int)+1=m:=⋯;unfold ahead;rw[e];show kJ y (m-1).toNat+fC y (((m-1).toNat:Int)+1)=_;rw[e2]
theorem AU(y:Int):ahead y 13=365+jx y:=by
 show 0+fC y 1+fC y 2+fC y 3+fC y 4+fC y 5+fC y 6+fC y 7+fC y 8+fC y 9+fC y 10+fC y 11+fC y 12=_;have e2:fC y 2=28+jx y:=rfl;rw[e2];show 0+31+(28+jx y)+31+30+31+30+31+31+30+31+30+31=_;omega
theorem GP{y m:Int}(h1:1<=m)(h2:m<=12):28<=fC y m:=by
 have hl:=IC y;unfold fC;split
 ·omega
 ·have hk:(m-1).toNat<12:=⋯;generalize (m-1).toNat=j at hk
  match j,hk with
  |0,_ | 1,_ | 2,_ | 3,_ | 4,_ | 5,_ | 6,_ | 7,_ | 8,_ | 9,_ | 10,_ | 11,_=>decide
  |n+12,h=>exact absurd h ⋯
theorem EJ(y:Int):∀n:Nat,((List.range n).map λi:Nat=>fC y (1+(i:Int))).sum=kJ y n
 |0=>rfl
 |n+1=>by
  rw[Fy,c8,EJ y n];show kJ y n+(fC y (1+(n:Int))+0)=kJ y n+fC y ((n:Int)+1);rw[Int.add_comm 1 (n:Int),Int.add_zero]
noncomputable def mR(k:Int):List Int:=if k / 7=12 then [2,29,k%7] else [k / 7+1,fC 1 (k / 7+1),k%7]
noncomputable def kg(k:Int):Int:=if k / 7=12 then 2 else k / 7+1
noncomputable def iO(k:Int):Int:=if k / 7=12 then 29 else fC 1 (k / 7+1)
theorem qX(k:Int):mR k=[kg k,iO k,k%7]:=by
 unfold mR kg iO;split<;>rfl
theorem LJ:∀n:Nat,n<91->(1<=kg n/\kg n<=12)/\(28<=iO n/\iO n<=31):=by decide +kernel
theorem pB{k:Int}(h0:0<=k)(h1:k<=90):(1<=kg k/\kg k<=12)/\Lf (iO k) (k%7):=by
 have z:=LJ k.toNat ⋯;rw[bZ h0] at z;exact⟨z.1,z.2,⋯,⋯⟩
def DVn(c:Cs)(D:Addr)(H:Hp)(v:V)(ko:Ko):Prop:=DV c H v ko/\∀p,v=.ref p->p≠D
theorem DVn.upd{c:Cs}{D:Addr}{H:Hp}{l':List V}{v:V}:∀{ko:Ko},DVn c D H v ko->(∃l,H D=some (.lst l))->DVn c D (upd H D (.lst l')) v ko
 |none,h,_=>h
 |some ks,⟨⟨p,qs,e,h1,h2,h3⟩,hn⟩,⟨l,hl⟩=>⟨⟨p,qs,e,by rw[eQ (hn p e)];exact h1,h2.keepM (qW hl),h3⟩,hn⟩
def RR(c:Cs)(m0 m1 m3:Int)(kd kw:Ko)(D:Addr)(i:Nat)(l:List V)(H:Hp):Prop:=match i with
 |0=>l=[]
 |1=>l=[.int m0]
 |2=>l=[.int m0,.int m1]
 |3=>∃dv,l=[.int m0,.int m1,dv]/\DVn c D H dv kd
 |4=>∃dv,l=[.int m0,.int m1,dv,.int m3]/\DVn c D H dv kd
 |_=>∃dv wv,l=[.int m0,.int m1,dv,.int m3,wv]/\DVn c D H dv kd/\DVn c D H wv kw
theorem RR.upd{c:Cs}{m0 m1 m3:Int}{kd kw:Ko}{D:Addr}{l l':List V}{H:Hp}(hl:∃l,H D=some (.lst l)):∀{i:Nat},RR c m0 m1 m3 kd kw D i l H->RR c m0 m1 m3 kd kw D i l (upd H D (.lst l'))
 |0,h=>h
 |1,h=>h
 |2,h=>h
 |3,⟨dv,e,h⟩=>⟨dv,e,h.upd hl⟩
 |4,⟨dv,e,h⟩=>⟨dv,e,h.upd hl⟩
 |_+5,⟨dv,wv,e,h,h'⟩=>⟨dv,wv,e,h.upd hl,h'.upd hl⟩
theorem aEF{ws:List (List Nat)}(h:∀w∈ws,w≠[]):j7 (.str (Tx [])) (ws.map λq=>V.str (Tx q))=false:=by
 unfold j7;rw[cN,cV];intro w hw hc;have e:Tx w=Tx []:=beq_iff_eq.mp (show (Tx w==Tx [])=true from hc);exact h w hw (by have:=congrArg (λz=>z.cps.toList) e;simpa [Tx] using this)
noncomputable def gQ(m0 m1:Int)(dv:V)(m3:Int)(wv:V)(tm:Int):List (Str×V):=fF "time_mask" (.int tm) (fF "weekday_marks" wv (fF "month_mask" (.int m3) (fF "day_marks" dv (fF "hour_mask" (.int m1) (fF "minute_mask" (.int m0) [])))))
theorem Ge(m0 m1:Int)(dv:V)(m3:Int)(wv:V)(tm:Int):(gQ m0 m1 dv m3 wv tm).lookup ("minute_mask":Str)=some (.int m0):=by
 unfold gQ;rw[fH,if_neg (by decide +kernel),fH,if_neg (by decide +kernel),fH,if_neg (by decide +kernel),fH,if_neg (by decide +kernel),fH,if_neg (by decide +kernel),fH,if_pos rfl]
theorem Kq(m0 m1:Int)(dv:V)(m3:Int)(wv:V)(tm:Int):(gQ m0 m1 dv m3 wv tm).lookup ("hour_mask":Str)=some (.int m1):=by
 unfold gQ;rw[fH,if_neg (by decide +kernel),fH,if_neg (by decide +kernel),fH,if_neg (by decide +kernel),fH,if_neg (by decide +kernel),fH,if_pos rfl]
theorem Nn(m0 m1:Int)(dv:V)(m3:Int)(wv:V)(tm:Int):(gQ m0 m1 dv m3 wv tm).lookup ("day_marks":Str)=some (dv):=by
 unfold gQ;rw[fH,if_neg (by decide +kernel),fH,if_neg (by decide +kernel),fH,if_neg (by decide +kernel),fH,if_pos rfl]
theorem Fi(m0 m1:Int)(dv:V)(m3:Int)(wv:V)(tm:Int):(gQ m0 m1 dv m3 wv tm).lookup ("month_mask":Str)=some (.int m3):=by
 unfold gQ;rw[fH,if_neg (by decide +kernel),fH,if_neg (by decide +kernel),fH,if_pos rfl]
theorem Zo(m0 m1:Int)(dv:V)(m3:Int)(wv:V)(tm:Int):(gQ m0 m1 dv m3 wv tm).lookup ("weekday_marks":Str)=some (wv):=by
 unfold gQ;rw[fH,if_neg (by decide +kernel),fH,if_pos rfl]
theorem Iy(m0 m1:Int)(dv:V)(m3:Int)(wv:V)(tm:Int):(gQ m0 m1 dv m3 wv tm).lookup ("time_mask":Str)=some (.int tm):=by
 unfold gQ;rw[fH,if_pos rfl]
theorem zZ(m0 m1:Int)(dv:V)(m3:Int)(wv:V)(tm:Int):(gQ m0 m1 dv m3 wv tm).lookup ("days_in":Str)=none:=by
 unfold gQ;rw[fH,if_neg (by decide +kernel),fH,if_neg (by decide +kernel),fH,if_neg (by decide +kernel),fH,if_neg (by decide +kernel),fH,if_neg (by decide +kernel),fH,if_neg (by decide +kernel)];rfl
theorem HP(m0 m1:Int)(dv:V)(m3:Int)(wv:V)(tm:Int):(gQ m0 m1 dv m3 wv tm).lookup ("shut_by":Str)=none:=by
 unfold gQ;rw[fH,if_neg (by decide +kernel),fH,if_neg (by decide +kernel),fH,if_neg (by decide +kernel),fH,if_neg (by decide +kernel),fH,if_neg (by decide +kernel),fH,if_neg (by decide +kernel)];rfl
theorem NX(m0 m1:Int)(dv:V)(m3:Int)(wv:V)(tm:Int):(gQ m0 m1 dv m3 wv tm).lookup ("on_days":Str)=none:=by
 unfold gQ;rw[fH,if_neg (by decide +kernel),fH,if_neg (by decide +kernel),fH,if_neg (by decide +kernel),fH,if_neg (by decide +kernel),fH,if_neg (by decide +kernel),fH,if_neg (by decide +kernel)];rfl
theorem GX(m0 m1:Int)(dv:V)(m3:Int)(wv:V)(tm:Int):(gQ m0 m1 dv m3 wv tm).lookup ("holds":Str)=none:=by
 unfold gQ;rw[fH,if_neg (by decide +kernel),fH,if_neg (by decide +kernel),fH,if_neg (by decide +kernel),fH,if_neg (by decide +kernel),fH,if_neg (by decide +kernel),fH,if_neg (by decide +kernel)];rfl
theorem FS(m0 m1:Int)(dv:V)(m3:Int)(wv:V)(tm:Int):(gQ m0 m1 dv m3 wv tm).lookup ("times":Str)=none:=by
 unfold gQ;rw[fH,if_neg (by decide +kernel),fH,if_neg (by decide +kernel),fH,if_neg (by decide +kernel),fH,if_neg (by decide +kernel),fH,if_neg (by decide +kernel),fH,if_neg (by decide +kernel)];rfl
theorem pv{lo hi:Int}:∀{ws:List (List Nat)} {nss:List (List Int)},Paired (kq lo hi) ws nss->(∀w∈ws,Cl w)/\(∀n∈nss.flatten,lo<=n/\n<=hi)/\nss.flatten.length<=64*ws.length
 |_,_,.nil=>⟨λw hw=>(nomatch hw),λn hn=>(nomatch hn),aX _⟩
 |w::ws,ns::nss,.cons r t=>by
  obtain⟨h1,h2,h3⟩:=pv t;refine⟨λv hv=>?_,λn hn=>?_,?_⟩
  ·rcases bA.mp hv with z | z
   ·subst z;exact r.2.1
   ·exact h1 v z
  ·rw[List.flatten_cons] at hn;exact (b9.mp hn).elim (r.2.2.1 n) (h2 n)
  ·rw[List.flatten_cons,aZ,bX];have:=r.2.2.2.2;omega
theorem nC{α β:Type}{F:α->β->Prop}:∀{l:List α} {r:List β} {a:α} {b:β},Paired F l r->F a b->Paired F (l++[a]) (r++[b])
 |_,_,_,_,.nil,h=>.cons h .nil
 |_,_,_,_,.cons x t,h=>.cons x (nC t h)
theorem rS{b:Bool}{ko:Ko}{a l f:Int}(h:Lf l f)(o:∀ks,ko=some ks->∀k∈ks,k.ok)(ha:0<=a):0<=jP ko a l f:=by
 cases ko with
 |none=>exact ha
 |some ks=>exact kW ha (RT h (o ks rfl))
theorem aHJ{a m:Int}{k:Nat}(ha:0<=a)(hk:a<2^k)(hm:0<=m):Builtin.bitOr a (m*2^k)=a+m*2^k:=by
 obtain⟨x,rfl⟩:=bY ha;obtain⟨y,rfl⟩:=bY hm;have e:((y:Int)*2^k)=((y*2^k:Nat):Int):=by rw[Int.natCast_mul,jG]
 have hx:x<2^k:=by have:=jG k;omega
 rw[e,pM,Nat.or_comm,←Nat.shiftLeft_eq,←Nat.shiftLeft_add_eq_or_of_lt hx,Nat.shiftLeft_eq];omega
noncomputable def hV(h m:Int):Int:=gL ((l9 h).map λz=>m*2^(60*z).toNat)
theorem DZ{h m:Int}(hm:0<=m)(hm2:m<2^60):∀n:Nat,gL ((flt (tb h) 0 n).map λz=>m*2^(60*z).toNat)=((flt (tb h) 0 n).map λz=>m*2^(60*z).toNat).sum/\0<=((flt (tb h) 0 n).map λz=>m*2^(60*z).toNat).sum/\((flt (tb h) 0 n).map λz=>m*2^(60*z).toNat).sum<2^(60*n)
 |0=>by rw[B5];exact⟨rfl,bB 0,(by decide:(0:Int)<2^0)⟩
 |n+1=>by
  obtain⟨h1,h2,h3⟩:=DZ hm hm2 n;have p60:(2:Int)^(60*(n+1))=2^(60*n)*2^60:=by rw[show 60*(n+1)=60*n+60 by omega,Int.pow_add]
  have p0:=jp (60*n);cases c:tb h n
  ·rw[qg c,p60];refine⟨h1,h2,Int.lt_of_lt_of_le h3 ?_⟩;have:(2:Int)^(60*n)*1<=2^(60*n)*2^60:=Int.mul_le_mul_of_nonneg_left (by decide) (b8 p0);omega
  ·have ez:(60*(0+(n:Int))).toNat=60*n:=⋯;have hb:(m+1)*2^(60*n)<=2^60*2^(60*n):=Int.mul_le_mul_of_nonneg_right ⋯ (b8 p0);have hn2:0<=m*2^(60*n):=Int.mul_nonneg hm (b8 p0);rw[uX c,a8,List.map_singleton,pz,c8,h1,ez,aHJ h2 h3 hm,p60];rw[Int.add_mul,Int.mul_comm (2^60)] at hb;refine⟨by simp,?_,?_⟩
   ·show 0<=_+(m*2^(60*n)+0);omega
   ·show _+(m*2^(60*n)+0)<_;omega
theorem Jg{a b:Int}(h:a+1<=b):db (a+1)<=db b:=by rw[oy,oy];omega
theorem Ma{q z:Int}(h:0<=z):db (q*400+z)<=146097*q+366*z:=by rw[oy];omega
def jn(y m k:Int):Prop:=(1<=m/\m<=12)/\1<=k/\k<=fC y m
noncomputable def io(y m k:Int):Int:=db y+ahead y m+k-1
theorem Ee(y:Int):∀(n d:Nat),n+d<=12->kJ y n<=kJ y (n+d)
 |_,0,_=>bB _
 |n,d+1,h=>by
  have h1:=Ee y n d ⋯;have h2:28<=fC y (((n+d:Nat):Int)+1):=GP ⋯ ⋯;show kJ y n<=kJ y (n+d)+fC y (((n+d:Nat):Int)+1);omega
theorem rL{y m n:Int}(h1:1<=m)(h2:m<=n)(h3:n<=13):ahead y m<=ahead y n:=by
 have e:(n-1).toNat=(m-1).toNat+(n-m).toNat:=⋯;unfold ahead;rw[e];exact Ee y _ _ ⋯
theorem JT{y m k:Int}(h:jn y m k):db y<=io y m k/\io y m k<db (y+1)/\io y m k<db y+ahead y (m+1):=by
 obtain⟨⟨h1,h2⟩,h3,h4⟩:=h;have a1:=rB (y:=y) h1;have a2:ahead y (m+1)<=ahead y 13:=rL ⋯ ⋯ ⋯;have a3:=AU y;have a4:=rW y;have a5:ahead y 1<=ahead y m:=rL ⋯ h1 ⋯;have a6:ahead y 1=0:=rfl;unfold io;omega
theorem ux{y m k y' m' k':Int}(h:jn y m k)(h':jn y' m' k')(e:io y m k=io y' m' k'):y=y'/\m=m'/\k=k':=by
 have b:=JT h;have b':=JT h';have ey:y=y':=by
  rcases Int.lt_trichotomy y y' with z | z | z
  ·have:=Jg (a:=y) (b:=y') ⋯;omega
  ·exact z
  ·have:=Jg (a:=y') (b:=y) ⋯;omega
 subst ey;have em:m=m':=by
  rcases Int.lt_trichotomy m m' with z | z | z
  ·have:=rL (y:=y) (m:=m+1) (n:=m') (by have:=h.1.1;omega) ⋯ (by have:=h'.1.2;omega);have q1:=h'.2.1;have q2:io y m' k'=db y+ahead y m'+k'-1:=rfl;omega
  ·exact z
  ·have:=rL (y:=y) (m:=m'+1) (n:=m) (by have:=h'.1.1;omega) ⋯ (by have:=h.1.2;omega);have q1:=h.2.1;have q2:io y m k=db y+ahead y m+k-1:=rfl;omega
 subst em;unfold io at e;exact⟨rfl,rfl,⋯⟩
noncomputable def jR(y m:Int):Int:=if m=2/\iZ y=true then 12 else m-1
noncomputable def kindOf(y m:Int):Int:=7*jR y m+(db y+ahead y m+6)%7
theorem HI{y m:Int}(h1:1<=m)(h2:m<=12):0<=jR y m/\jR y m<=12:=by
 unfold jR;split<;>omega
theorem qI{y m:Int}(h1:1<=m)(h2:m<=12):0<=kindOf y m/\kindOf y m<=90:=by
 have:=HI (y:=y) h1 h2;unfold kindOf;omega
theorem KA{y m:Int}(h:¬m=2):fC y m=lasts.getD (m-1).toNat 0:=by unfold fC;rw[if_neg h]
theorem VY{y m:Int}(h1:1<=m)(h2:m<=12):mR (kindOf y m)=[m,fC y m,kindOf y m%7]:=by
 have hp:=HI (y:=y) h1 h2;have e:kindOf y m / 7=jR y m:=by unfold kindOf;omega
 unfold mR;rw[e];by_cases c:m=2/\iZ y=true
 ·have ep:jR y m=12:=by unfold jR;rw[if_pos c]
  have el:fC y m=29:=by unfold fC jx;rw[if_pos c.1,if_pos c.2];rfl
  rw[ep,if_pos rfl,el,c.1]
 ·have ep:jR y m=m-1:=by unfold jR;rw[if_neg c]
  rw[ep,if_neg ⋯];have e1:m-1+1=m:=⋯;rw[e1];have el:fC 1 m=fC y m:=by
   by_cases c2:m=2
   ·have hl:¬iZ y=true:=λz=>c ⟨c2,z⟩;unfold fC jx;rw[if_pos c2,if_pos c2,if_neg hl];rfl
   ·rw[KA c2,KA c2]
  rw[el]
theorem m9{y m:Int}(h1:1<=m)(h2:m<=12):kg (kindOf y m)=m/\iO (kindOf y m)=fC y m:=by
 have e:=VY (y:=y) h1 h2;rw[qX] at e;injection e with e1 e;injection e with e2 e;exact⟨e1,e2⟩
theorem Js{y m:Int}(h1:1<=m)(h2:m<=12):28<=fC y m/\fC y m<=31:=by
 have e:=m9 (y:=y) h1 h2;have k:=qI (y:=y) h1 h2;rw[←e.2];exact (pB k.1 k.2).2.1
noncomputable def jw(m0 m1 m3:Int)(kd kw:Ko)(d r y m k:Int):V:=
 if tb m3 m.toNat=false then .str (Tx [109,111,110,116,104]) else if tb (iQ kd kw (fC y m) ((d-k+1+6)%7)) k.toNat=false then .str (Tx [100,97,121])
 else if tb m1 (r / 60).toNat=false then .str (Tx [104,111,117,114]) else if tb m0 (r%60).toNat=false then .str (Tx [109,105,110,117,116,101]) else .non
section
variable{m0 m1 m3:Int}{kd kw:Ko}{d r y m k:Int}
theorem uT(h:tb m3 m.toNat=false):jw m0 m1 m3 kd kw d r y m k=.str (Tx [109,111,110,116,104]):=if_pos h
theorem Cp(h1:tb m3 m.toNat=true)(h:tb (iQ kd kw (fC y m) ((d-k+1+6)%7)) k.toNat=false):jw m0 m1 m3 kd kw d r y m k=.str (Tx [100,97,121]):=by
 unfold jw;rw[if_neg (by rw[h1];decide),if_pos h]
theorem CQ(h1:tb m3 m.toNat=true)(h2:tb (iQ kd kw (fC y m) ((d-k+1+6)%7)) k.toNat=true)(h:tb m1 (r / 60).toNat=false):jw m0 m1 m3 kd kw d r y m k=.str (Tx [104,111,117,114]):=by
 unfold jw;rw[if_neg (by rw[h1];decide),if_neg (by rw[h2];decide),if_pos h]
theorem zk(h1:tb m3 m.toNat=true)(h2:tb (iQ kd kw (fC y m) ((d-k+1+6)%7)) k.toNat=true)(h3:tb m1 (r / 60).toNat=true)(h:tb m0 (r%60).toNat=false):jw m0 m1 m3 kd kw d r y m k=.str (Tx [109,105,110,117,116,101]):=by
 unfold jw;rw[if_neg (by rw[h1];decide),if_neg (by rw[h2];decide),if_neg (by rw[h3];decide),if_pos h]
theorem Av(h1:tb m3 m.toNat=true)(h2:tb (iQ kd kw (fC y m) ((d-k+1+6)%7)) k.toNat=true)(h3:tb m1 (r / 60).toNat=true)(h:tb m0 (r%60).toNat=true):jw m0 m1 m3 kd kw d r y m k=.non:=by
 unfold jw;rw[if_neg (by rw[h1];decide),if_neg (by rw[h2];decide),if_neg (by rw[h3];decide),if_neg (by rw[h];decide)]
theorem qv(hk:jn y m k)(e:io y m k=d):kindOf y m%7=(d-k+1+6)%7:=by
 unfold kindOf;unfold io at e;omega
theorem GQ(hk:jn y m k):Lf (fC y m) ((d-k+1+6)%7):=⟨Js hk.1.1 hk.1.2,⋯,⋯⟩
end
theorem mm{b:Bool}(h:¬b=false):b=true:=by simpa using h
theorem D4{kd kw:Ko}{l f:Int}(h:Lf l f)(od:∀ks,kd=some ks->∀k∈ks,k.ok)(ow:∀ks,kw=some ks->∀k∈ks,k.ok):0<=iQ kd kw l f:=by
 unfold iQ;split
 ·have:=jp l.toNat;have:(2:Int)^l.toNat ≥ 1:=⋯;omega
 ·exact rS (b:=true) h ow (rS (b:=false) h od (bB 0))
theorem rZ{c:Cs}{H:Hp}{v:V}:∀{ko:Ko},DV c H v ko->∀ks,ko=some ks->∀k∈ks,k.ok
 |some _,⟨_,_,_,_,_,h⟩,_,rfl=>h
theorem sV{zs:List Int}{i:Int}(h0:0<=i)(h1:i<zs.length):∃z,iF (zs.map V.int) i=some (V.int z):=by
 have hk:i.toNat<zs.length:=⋯;have e:i=((i.toNat:Nat):Int):=⋯;rw[e];exact⟨zs[i.toNat],mH (by rw[bN,cC hk];rfl)⟩
noncomputable def ie(M:Int):Int:=db (M / 12)+ahead (M / 12) (M%12+1)
noncomputable def lU(M:Int):Int:=fC (M / 12) (M%12+1)
noncomputable def mf(M:Int):Int:=kindOf (M / 12) (M%12+1)
theorem lY(M:Int):ie (M+1)=ie M+lU M:=by
 unfold ie lU;by_cases c:M%12=11
 ·rw[show (M+1) / 12=M / 12+1 by omega,show (M+1)%12=0 by omega,c];have a1:=rB (y:=M / 12) (m:=12) (by decide);have a2:=AU (M / 12);have a3:=rW (M / 12);have a4:ahead (M / 12+1) (0+1)=0:=rfl;have e:(12:Int)+1=13:=rfl;have e':(11:Int)+1=12:=rfl;rw[e] at a1;rw[a4,e'];omega
 ·rw[show (M+1) / 12=M / 12 by omega,show (M+1)%12=M%12+1 by omega,rB ⋯];omega
def ia(t:Int):Prop:=0<=t/\t<2^1440
noncomputable def lu(g:Nat->Int):Nat->Int
 |0=>0
 |n+1=>Builtin.bitOr (lu g n) (g n*2^(1440*n))
theorem ue{g:Nat->Int}:∀{n:Nat},(∀j,j<n->ia (g j))->0<=lu g n
 |0,_=>bB 0
 |n+1,h=>kW (ue λj hj=>h j ⋯) (Int.mul_nonneg (h n ⋯).1 (b8 (jp _)))
theorem Jf{g:Nat->Int}(i:Nat):∀{n:Nat},(∀j,j<n->ia (g j))->tb (lu g n) i=(decide (i / 1440<n)&&tb (g (i / 1440)) (i%1440))
 |0,_=>by
  show tb 0 i=_;rw[ji,dP (Nat.not_lt_zero _),Bool.false_and]
 |n+1,h=>by
  have h0:∀j,j<n->ia (g j):=λj hj=>h j ⋯;have hn:=h n ⋯;show tb (Builtin.bitOr (lu g n) (g n*2^(1440*n))) i=_;rw[mW (ue h0) (Int.mul_nonneg hn.1 (b8 (jp _))),Jf i h0,qZ hn.1];rcases Nat.lt_trichotomy (i / 1440) n with c | c | c
  ·rw[dN c,dN (show i / 1440<n+1 by omega),dP (show ¬1440*n<=i by omega),Bool.false_and,Bool.or_false]
  ·rw[dP (show ¬i / 1440<n by omega),dN (show i / 1440<n+1 by omega),dN (show 1440*n<=i by omega),c,show i-1440*n=i%1440 by omega];rfl
  ·rw[dP (show ¬i / 1440<n by omega),dP (show ¬i / 1440<n+1 by omega),nU hn.2 (show 1440<=i-1440*n by omega),Bool.and_false];rfl
structure Cal(S W:Int->Int):Prop where
 up:∀M,S M<S (M+1)
 nn:∀M,0<=W M
 bit:∀M i,tb (W M) i=true->(i:Int)<S (M+1)-S M
def Ev(S W:Int->Int)(t:Int):Prop:=∃M:Int,S M<=t/\t<S (M+1)/\tb (W M) (t-S M).toNat=true
variable{S W:Int->Int}
theorem Cal.le(h:Cal S W)(M:Int):∀n:Nat,S M<=S (M+n)
 |0=>by simp
 |n+1=>by
  have:=h.le M n;have:=h.up (M+n);rw[show M+((n+1:Nat):Int)=M+n+1 by omega];omega
theorem Cal.mono(h:Cal S W){M N:Int}(hl:M<=N):S M<=S N:=by
 have:=h.le M (N-M).toNat;rw[bZ ⋯,show M+(N-M)=N by omega] at this;exact this
theorem Cal.uniq(h:Cal S W){M N t:Int}(h1:S M<=t)(h2:t<S (M+1))(h3:S N<=t)(h4:t<S (N+1)):M=N:=by
 rcases Int.lt_trichotomy M N with c | c | c
 ·have:=h.mono (show M+1<=N by omega);omega
 ·exact c
 ·have:=h.mono (show N+1<=M by omega);omega
theorem Qr(h:Cal S W){M mo:Int}{l:Nat}(none:∀t,mo<=t->t<S M->¬Ev S W t)(hl:tb (W M / 2^(max (mo-S M) 0).toNat) l=true)(hj:∀j,j<l->tb (W M / 2^(max (mo-S M) 0).toNat) j=false):
  Ev S W (S M+max (mo-S M) 0+l)/\mo<=S M+max (mo-S M) 0+l/\∀t,mo<=t->t<S M+max (mo-S M) 0+l->¬Ev S W t:=by
 generalize e:max (mo-S M) 0=p at hl hj ⊢;have hp:0<=p/\mo-S M<=p/\(p=0∨p=mo-S M):=⋯;rw[nJ (h.nn M)] at hl;have hb:=h.bit M _ hl;refine⟨⟨M,⋯,⋯,?_⟩,⋯,?_⟩
 ·rw[show (S M+p+(l:Int)-S M).toNat=p.toNat+l by omega];exact hl
 ·intro t h1 h2 hE;rcases Int.lt_or_le t (S M) with c | c
  ·exact none t h1 c hE
  ·obtain⟨N,a1,a2,a3⟩:=hE;obtain rfl:=h.uniq c ⋯ a1 a2;have:=hj (t-S M-p).toNat ⋯;rw[nJ (h.nn M),show p.toNat+(t-S M-p).toNat=(t-S M).toNat by omega,a3] at this;cases this
theorem awM(h:Cal S W){M mo:Int}(none:∀t,mo<=t->t<S M->¬Ev S W t)(hz:W M / 2^(max (mo-S M) 0).toNat=0):∀t,mo<=t->t<S (M+1)->¬Ev S W t:=by
 intro t h1 h2 hE;rcases Int.lt_or_le t (S M) with c | c
 ·exact none t h1 c hE
 ·obtain⟨N,a1,a2,a3⟩:=hE;obtain rfl:=h.uniq c h2 a1 a2;generalize e:max (mo-S M) 0=p at hz;have hp:0<=p/\mo-S M<=p/\(p=0∨p=mo-S M):=⋯;have z:=nJ (h.nn M) p.toNat (t-S M-p).toNat;rw[hz,ji,show p.toNat+(t-S M-p).toNat=(t-S M).toNat by omega,a3] at z;cases z
theorem Pq{c d m:Int}(hc:0<=c)(hd:0<=d)(hm:0<=m)(h0:∀i,(tb c i&&tb d i)=false)(h1:∀i,(tb c i||tb d i)=tb m i):c+d=m:=by
 have ea:Builtin.bitAnd c d=0:=ki (m8 hc hd) (bB 0) λi=>by rw[mQ hc hd,h0,ji]
 have eo:Builtin.bitOr c d=m:=ki (kW hc hd) hm λi=>by rw[mW hc hd,h1]
 rw[←eo,bitOr_and,ea];omega
theorem Jp{m:Int}(h:0<m):∃k,tb m k=true/\∀j,j<k->tb m j=false:=by
 have hex:∃i,tb m i=true:=by
  cases Classical.em (∃i,tb m i=true) with
  |inl z=>exact z
  |inr z=>
   have:m=0:=ki ⋯ (bB 0) λi=>by
    rw[ji];cases e:tb m i with
    |false=>rfl
    |true=>exact absurd ⟨i,e⟩ z
   omega
 obtain⟨i,hi⟩:=hex;have key:∀n i,i<=n->tb m i=true->∃k,tb m k=true/\∀j,j<k->tb m j=false:=by
  intro n;induction n with
  |zero=>
   intro i hi h;obtain rfl:i=0:=⋯;exact⟨0,h,λj hj=>absurd hj (Nat.not_lt_zero _)⟩
  |succ n ih=>
   intro i hi h;cases Classical.em (∃j,j<i/\tb m j=true) with
   |inl z=>
    obtain⟨j,hj,hb⟩:=z;exact ih j ⋯ hb
   |inr z=>
    exact⟨i,h,λj hj=>by
     cases e:tb m j with
     |false=>rfl
     |true=>exact absurd ⟨j,hj,e⟩ z⟩
 exact key i i (aX _) hi
theorem Pn{m:Int}(h:0<m){k:Nat}(hk:tb m k=true)(hj:∀j,j<k->tb m j=false):Builtin.bitAnd m (-m)=2^k:=by
 have hm1:0<=m-1:=⋯;have e:Builtin.bitAnd m (-m)=m-Builtin.bitAnd m (m-1):=by
  rw[bitAnd_pn ⋯ ⋯,bitAnd_pp ⋯ hm1];have:Builtin.bitNot (-m)=m-1:=by unfold Builtin.bitNot;omega
  rw[this]
 obtain⟨n,rfl⟩:=bY (b8 h);have hkn:n.testBit k=true:=hk;have hjn:∀j,j<k->n.testBit j=false:=hj;have em:n%2^k=0:=Nat.eq_of_testBit_eq λi=>by
  rw[Nat.testBit_mod_two_pow,Nat.zero_testBit];by_cases c:i<k
  ·rw[dN c,hjn i c];rfl
  ·rw[dP c];rfl
 have hd:n=2^k*(n / 2^k):=by
  have:=Nat.div_add_mod n (2^k);omega
 have ho:(n / 2^k).testBit 0=true:=by rw[Nat.testBit_div_two_pow,Nat.zero_add];exact hkn
 have ho:n / 2^k%2=1:=by
  rw[Nat.testBit_zero] at ho;exact dM ho
 obtain⟨q,hq⟩:∃q,n / 2^k=2*q+1:=⟨n / 2^k / 2,⋯⟩;have hp:=Nat.two_pow_pos k;have e1:n=2^(k+1)*q+2^k:=by rw[hd,hq,Nat.mul_add,Nat.mul_one,←Nat.mul_assoc,Nat.pow_succ]
 have e2:n-1=2^(k+1)*q+(2^k-1):=⋯;have hl:2^k-1<2^(k+1):=by rw[Nat.pow_succ];omega
 have hl2:2^k<2^(k+1):=by rw[Nat.pow_succ];omega
 have tb1:∀i,tb ((n:Int)-1) i=(if i<k+1 then (2^k-1).testBit i else q.testBit (i-(k+1))):=λi=>by
  unfold tb;have:((n:Int)-1).toNat=n-1:=⋯;rw[this,e2,Nat.testBit_two_pow_mul_add _ hl]
 have tbn:∀i,tb (n:Int) i=(if i<k+1 then (2^k).testBit i else q.testBit (i-(k+1))):=λi=>by
  unfold tb;rw[bQ,e1,Nat.testBit_two_pow_mul_add _ hl2]
 have hz:∀i,(tb (2^k) i&&tb (Builtin.bitAnd (n:Int) ((n:Int)-1)) i)=false:=λi=>by
  rw[Bl,mQ ⋯ hm1,tb1];by_cases c:k=i
  ·subst c;rw[if_pos ⋯,Nat.testBit_two_pow_sub_one];simp
  ·rw[dP c];rfl
 have hs:=Pq (c:=2^k) (d:=Builtin.bitAnd (n:Int) ((n:Int)-1)) (m:=(n:Int)) (b8 (jp k)) (m8 ⋯ hm1) ⋯ hz (λi=>by
  rw[Bl,mQ ⋯ hm1,tb1,tbn];by_cases c:i<k+1
  ·rw[if_pos c,if_pos c,Nat.testBit_two_pow_sub_one,Nat.testBit_two_pow];by_cases d:k=i
   ·subst d;simp
   ·rw[dP d];simp
  ·rw[if_neg c,if_neg c,dP ⋯];cases q.testBit (i-(k+1))<;>rfl)
 omega
theorem PD(k:Nat):Builtin.Int.intBits (2^k)=k+1:=by
 unfold Builtin.Int.intBits;have h0:((2:Int)^k==0)=false:=beq_eq_false_iff_ne.mpr (Int.ne_of_gt (jp k));rw[h0];have:((2:Int)^k).natAbs=2^k:=by rw[←jG,Int.natAbs_natCast]
 rw[this,Nat.log2_two_pow];rfl
noncomputable abbrev jV:=Int×Int×List Nat
def nL(H:Hp)(v:V)(z:jV):Prop:=∃t:Addr,v=.ref t/\H t=some (.tup [.int z.1,.int z.2.1,.str (Tx z.2.2)])
noncomputable def ll(sts:List jV)(a b:Int)(tm:List Nat):List jV:=match sts.getLast? with
 |some s=>if s.2.2=tm then sts.dropLast++[(s.1,b,tm)] else sts++[(a,b,tm)]
 |none=>[(a,b,tm)]
theorem BV{H H':Hp}(h:∀b xs,H b=some (.tup xs)->H' b=some (.tup xs)){v:V}{s:jV}(z:nL H v s):nL H' v s:=by
 obtain⟨t,e,ht⟩:=z;exact⟨t,e,h _ _ ht⟩
theorem JR(sts:List jV)(s:jV)(a b:Int)(tm:List Nat):ll (sts++[s]) a b tm=if s.2.2=tm then sts++[(s.1,b,tm)] else sts++[s]++[(a,b,tm)]:=by
 unfold ll;simp
theorem Iu{α β:Type}{F:α->β->Prop}:∀{l:List α} {v:α} {r:List β},Paired F (l++[v]) r->∃r0 s,r=r0++[s]/\Paired F l r0/\F v s
 |[],v,_,.cons h .nil=>⟨[],(),.nil,h⟩
 |x::l,v,_,.cons h t=>by
  obtain⟨r0,s,rfl,h1,h2⟩:=Iu t;exact⟨_::r0,s,rfl,.cons h h1,h2⟩
theorem P2{α:Type}{l:List α}(h:l≠[]):∃l0 v,l=l0++[v]:=⟨l.dropLast,l.getLast h,(List.dropLast_concat_getLast h).symm⟩
theorem JB{l:List V}{v:V}:iF (l++[v]) (-1)=some v:=MS l v
theorem aFF{l:List V}{v:V}:kG (l++[v]).length (-1)=some l.length:=by
 unfold kG;simp;omega
theorem ZL{l:List V}{v u:V}:(l++[v]).set l.length u=l++[u]:=by simp
noncomputable def kS(m3:Int)(kd kw:Ko)(k:Int):Int:=if tb m3 (kg k).toNat=true then iQ kd kw (iO k) (k%7) else 0
noncomputable def i8(tm m3:Int)(kd kw:Ko)(k:Int)(j:Nat):Int:=if tb (kS m3 kd kw k) (j+1)=true then tm else 0
noncomputable def jJ(f:Int->Nat->Int)(k:Int):List Int:=(List.range (iO k).toNat).map (f k)
theorem HG{c:Cs}{H:Hp}{v:V}{ko:Ko}(h:DV c H v ko):∀ks,ko=some ks->∀k∈ks,k.ok:=λks e=>by
 subst e;obtain⟨_,_,_,_,_,z⟩:=h;exact z
theorem Rb{c:Cs}{H:Hp}{dv wv:V}{m3 k:Int}{kd kw:Ko}(hd:DV c H dv kd)(hw:DV c H wv kw)(h0:0<=k)(h1:k<=90):0<=kS m3 kd kw k:=by
 have ml:=(pB h0 h1).2;unfold kS;split
 ·unfold iQ;split
  ·have:(0:Int)<2^(iO k).toNat:=jp _;omega
  ·exact rS (b:=false) ml (HG hw) (rS (b:=false) ml (HG hd) (bB 0))
 ·exact bB 0
theorem F4{h m:Int}(h0:0<=h)(h1:h<2^24)(hm:0<=m){r:Nat}(a:tb h (r / 60)=true)(b:tb m (r%60)=true):tb (hV h m) r=true:=by
 unfold hV;rw[lW (λz hz=>by
  obtain⟨y,_,rfl⟩:=bI.mp hz;exact Int.mul_nonneg hm (b8 (jp _))),List.any_eq_true]
 have hlt:r / 60<24:=by
  rcases Nat.lt_or_ge (r / 60) 24 with c | c
  ·exact c
  ·rw[nU h1 c] at a;cases a
 refine⟨_,bI.mpr ⟨((r / 60:Nat):Int),?_,rfl⟩,?_⟩
 ·rw[qO h0 h1,flt_mem];exact⟨r / 60,hlt,a,⋯⟩
 ·rw[show (60*((r / 60:Nat):Int)).toNat=60*(r / 60) by omega,qZ hm,dN (show 60*(r / 60)<=r by omega),show r-60*(r / 60)=r%60 by omega,b];rfl
theorem ZJ{h m:Int}(h0:0<=h)(h1:h<2^24)(hm:0<=m)(hm2:m<2^60):ia (hV h m):=by
 unfold hV;rw[qO h0 h1];obtain⟨e,a,b⟩:=DZ (h:=h) hm hm2 24;rw[e];exact⟨a,b⟩
theorem vK(g:Int->Nat->Int)(k:Int):(jJ g k).length=(iO k).toNat:=by unfold jJ;rw[aY,List.length_range]
theorem Iv{g:Int->Nat->Int}{k:Int}{j:Nat}(h:j<(iO k).toNat):(jJ g k).getD j 0=g k j:=by
 unfold jJ;rw[List.getD_eq_getElem?_getD,bN,List.getElem?_range h];rfl
noncomputable def wK(g:Int->Nat->Int)(k:Int):Int:=lu (λj=>(jJ g k).getD j 0) (jJ g k).length
noncomputable def SM(M:Int):Int:=1440*ie M
noncomputable def WM(g:Int->Nat->Int)(M:Int):Int:=wK g (mf M)
def gG(g:Int->Nat->Int):Prop:=∀k j,ia (g k j)
theorem PJ{g:Int->Nat->Int}(hg:gG g){k:Int}:∀t∈jJ g k,ia t:=λt ht=>by
 obtain⟨j,_,rfl⟩:=bI.mp ht;exact hg k j
theorem JM{g:Int->Nat->Int}(hg:gG g){k:Int}(j:Nat)(hj:j<(jJ g k).length):ia ((jJ g k).getD j 0):=by
 rw[Iv (by rw[vK] at hj;exact hj)];exact hg k j
theorem Z5(M:Int):0<=mf M/\mf M<=90:=qI ⋯ ⋯
theorem Xg(M:Int):iO (mf M)=lU M:=(m9 (y:=M / 12) (m:=M%12+1) ⋯ ⋯).2
theorem oE(M:Int):28<=lU M/\lU M<=31:=Js ⋯ ⋯
theorem Ka{g:Int->Nat->Int}(hg:gG g)(k:Int)(i:Nat):tb (wK g k) i=(decide (i / 1440<(iO k).toNat)&&tb (g k (i / 1440)) (i%1440)):=by
 unfold wK;rw[Jf i (λj hj=>JM hg j hj),vK];by_cases c:i / 1440<(iO k).toNat
 ·show (_&&tb ((jJ g k).getD (i / 1440) 0) _)=_;rw[Iv c]
 ·rw[dP c];rfl
theorem aHX{g:Int->Nat->Int}(hg:gG g):Cal SM (WM g) where
 up M:=by
  unfold SM;have:=lY M;have:=oE M;omega
 nn M:=ue λj hj=>JM hg j hj
 bit M i h:=by
  unfold WM at h;rw[Ka hg,bV,dO,Xg] at h;unfold SM;have:=lY M;omega
abbrev om(g:Int->Nat->Int)(t:Int):Prop:=Ev SM (WM g) t
theorem R8{t y m k:Int}(ok:jn y m k)(e:io y m k=t / 1440):SM (12*y+m-1)<=t/\t<SM (12*y+m-1+1)/\(t-SM (12*y+m-1)).toNat=1440*(k-1).toNat+(t%1440).toNat/\mf (12*y+m-1)=kindOf y m/\(k-1).toNat<(fC y m).toNat/\(k-1).toNat+1=k.toNat:=by
 have hm:=ok.1;have hk:=ok.2;have e1:(12*y+m-1) / 12=y:=⋯;have e2:(12*y+m-1)%12+1=m:=⋯;have ek:mf (12*y+m-1)=kindOf y m:=by unfold mf;rw[e1,e2]
 have ed:ie (12*y+m-1)=db y+ahead y m:=by unfold ie;rw[e1,e2]
 have el:lU (12*y+m-1)=fC y m:=by unfold lU;rw[e1,e2]
 have up:=lY (12*y+m-1);have e':db y+ahead y m+k-1=t / 1440:=e;rw[ed,el] at up;clear e e1 e2 hm ok;unfold SM;rw[ed,up];clear ed el up;generalize db y+ahead y m=A at *;generalize fC y m=L at *;refine⟨⋯,⋯,⋯,ek,⋯,⋯⟩
theorem EL(t:Int)(n:Nat):(1440*n+(t%1440).toNat) / 1440=n/\(1440*n+(t%1440).toNat)%1440=(t%1440).toNat/\(t%1440).toNat / 60=(t%1440 / 60).toNat/\(t%1440).toNat%60=(t%1440%60).toNat:=⟨⋯,⋯,⋯,⋯⟩
theorem QJ{m0 m1 m3 t y m k:Int}{kd kw:Ko}(hn:0<=m0/\0<=m1/\0<=m3)(hb:m1<2^24/\m0<2^60)(hg:gG (i8 (hV m1 m0) m3 kd kw))(ok:jn y m k)(e:io y m k=t / 1440)(h:jw m0 m1 m3 kd kw (t / 1440) (t%1440) y m k=.non):om (i8 (hV m1 m0) m3 kd kw) t:=by
 unfold jw at h;split at h
 ·cases h
 split at h
 ·cases h
 split at h
 ·cases h
 split at h
 ·cases h
 rename_i c1 c2 c3 c4;have f7:=qv ok e;have mk:=m9 (y:=y) ok.1.1 ok.1.2;obtain⟨a1,a2,ei,ek,a5,a6⟩:=R8 ok e;obtain⟨u1,u2,u3,u4⟩:=EL t (k-1).toNat;refine⟨12*y+m-1,a1,a2,?_⟩;unfold WM;rw[Ka hg,ei,u1,u2,ek,mk.2,dN a5];have eg:i8 (hV m1 m0) m3 kd kw (kindOf y m) (k-1).toNat=hV m1 m0:=by
  unfold i8 kS;rw[mk.1,mk.2,if_pos (mm c1),f7,a6,if_pos (mm c2)]
 rw[eg,F4 hn.2.1 hb.1 hn.1 (by rw[u3];exact mm c3) (by rw[u4];exact mm c4)];rfl
theorem QL{h m m3:Int}{kd kw:Ko}(h0:0<=h)(h1:h<2^24)(hm:0<=m)(hm2:m<2^60):gG (i8 (hV h m) m3 kd kw):=λk j=>by
 unfold i8;split
 ·exact ZJ h0 h1 hm hm2
 ·exact⟨bB 0,jp _⟩
theorem Io(M:Int):∀n:Nat,SM (M+n)<=SM M+44640*n
 |0=>by simp
 |n+1=>by
  have:=Io M n;have:=lY (M+n);have:=oE (M+n);rw[show M+((n+1:Nat):Int)=M+n+1 by omega];unfold SM at *;omega
noncomputable def ke(sts:List jV):Int:=match sts.getLast? with
 |some s=>if s.2.2=[109,105,110,117,116,101] then 1 else 0
 |none=>0
theorem Hj(sts:List jV):0<=ke sts/\ke sts<=1:=by
 unfold ke;split
 ·split<;>decide
 ·decide
theorem Xy(sts:List jV)(a b:Int)(tm:List Nat):ke (ll sts a b tm)=if tm=[109,105,110,117,116,101] then 1 else 0:=by
 unfold ll;split
 ·split
  ·unfold ke;rw[List.getLast?_concat]
  ·unfold ke;rw[List.getLast?_concat]
 ·rfl
theorem OE(sts:List jV)(a b:Int)(tm:List Nat):(ll sts a b tm).length<=sts.length+1/\(tm=[109,105,110,117,116,101]->ke sts=1->(ll sts a b tm).length=sts.length):=by
 rcases List.eq_nil_or_concat sts with rfl | ⟨l,s,rfl⟩
 ·exact⟨aX _,λ_ h=>by cases h⟩
 ·rw[List.concat_eq_append,JR];split
  ·refine⟨by simp,λ_ _=>by simp⟩
  ·rename_i c;refine⟨by simp,λe h=>?_⟩;exfalso;unfold ke at h;rw[List.getLast?_concat] at h;by_cases z:s.2.2=[109,105,110,117,116,101]
   ·exact c (z.trans e.symm)
   ·have h:(if s.2.2=[109,105,110,117,116,101] then (1:Int) else 0)=1:=h;rw[if_neg z] at h;cases h
theorem aBG{sts:List jV}{a b mo la be:Int}{tm:List Nat}(h:(sts.length:Int)<=2*(mo / 60-be / 60)+ke sts)(h1:mo<=la)(h2:tm≠[109,105,110,117,116,101]->(la+1)%60=0):((ll sts a b tm).length:Int)<=2*((la+1) / 60-be / 60)+ke (ll sts a b tm):=by
 have l1:=Hj sts;obtain⟨n1,n2⟩:=OE sts a b tm;rw[Xy];by_cases c:tm=[109,105,110,117,116,101]
 ·rw[if_pos c];rcases (show ke sts=0∨ke sts=1 by omega) with z | z
  ·omega
  ·have:=n2 c z;omega
 ·rw[if_neg c];have:=h2 c;omega
theorem Fd{α β:Type}{F:α->β->Prop}:∀{l:List α} {r:List β},Paired F l r->l.length=r.length
 |_,_,.nil=>rfl
 |_,_,.cons _ t=>congrArg (·+1) (Fd t)
theorem TH{m0 m1 m3 d r y m k:Int}{kd kw:Ko}(h:jw m0 m1 m3 kd kw d r y m k≠ .non):∃tw,jw m0 m1 m3 kd kw d r y m k=.str (Tx tw)/\(tw≠[109,105,110,117,116,101]->tw≠[104,111,117,114]->tb m3 m.toNat=true->tb (iQ kd kw (fC y m) ((d-k+1+6)%7)) k.toNat=false):=by
 by_cases c1:tb m3 m.toNat=false
 ·exact⟨_,uT c1,λ_ _ z=>by rw[c1] at z;cases z⟩
 have c1:=mm c1;by_cases c2:tb (iQ kd kw (fC y m) ((d-k+1+6)%7)) k.toNat=false
 ·exact⟨_,Cp c1 c2,λ_ _ _=>c2⟩
 have c2:=mm c2;by_cases c3:tb m1 (r / 60).toNat=false
 ·exact⟨_,CQ c1 c2 c3,λ_ z=>absurd rfl z⟩
 have c3:=mm c3;by_cases c4:tb m0 (r%60).toNat=false
 ·exact⟨_,zk c1 c2 c3 c4,λz=>absurd rfl z⟩
 exact absurd (Av c1 c2 c3 (mm c4)) h
def SameN(H H':Hp):Prop:=∀b o,(∀ps,o≠ .tbl ps)->H b=some o->H' b=some o
theorem jQ{H H':Hp}(s:Same H H'):SameN H H':=λb o _ h=>s b o h
theorem SameN.trans{H H1 H2:Hp}(a:SameN H H1)(b:SameN H1 H2):SameN H H2:=λc o n h=>b c o n (a c o n h)
theorem Hf{c:Cs}{H H':Hp}(s:SameN H H'){v:V}:∀{ko:Ko},DV c H v ko->DV c H' v ko
 |none,h=>h
 |some _,⟨p,qs,e,h1,h2,h3⟩=>⟨p,qs,e,s _ _ (λ_ z=>by cases z) h1,Paired.imp' (λx k z=>by cases k<;>(obtain⟨dx,z⟩:=z;exact⟨dx,s _ _ (λ_ z=>by cases z) z⟩)) h2,h3⟩
def RowR(c:Cs)(CR:Addr)(H:Hp)(p:Addr)(m0 m1 m3:Int)(kd kw:Ko):Prop:=∃(dx:Addr) (dv wv:V),H p=some (.ins CR dx (gQ m0 m1 dv m3 wv (hV m1 m0)))/\(0<=m0/\0<=m1/\0<=m3)/\(m1<2^24/\m0<2^60)/\DV c H dv kd/\DV c H wv kw
theorem RowR.keepN{c:Cs}{CR:Addr}{H H':Hp}{p:Addr}{m0 m1 m3:Int}{kd kw:Ko}(s:SameN H H')(h:RowR c CR H p m0 m1 m3 kd kw):RowR c CR H' p m0 m1 m3 kd kw:=by
 obtain⟨dx,dv,wv,hp,hn,hb,hd,hw⟩:=h;exact⟨dx,dv,wv,s _ _ (λ_ z=>by cases z) hp,hn,hb,Hf s hd,Hf s hw⟩
theorem RowR.ok{c:Cs}{CR:Addr}{H:Hp}{p:Addr}{m0 m1 m3:Int}{kd kw:Ko}(h:RowR c CR H p m0 m1 m3 kd kw):gG (i8 (hV m1 m0) m3 kd kw):=by
 obtain⟨dx,dv,wv,hp,hn,hb,hd,hw⟩:=h;exact QL hn.2.1 hb.1 hn.1 hb.2
def Bj(P:Program)(w:World)(K:FG)(mg:Str->Option Value)(base:Heap)(n:Nat)(H:Hp)(f:Addr)(g:Int->Nat->Int):Prop:=
 FnHO H f/\∀(H1:Hp) (kd:Int) (Q:VK),Same H H1->0<=kd->kd<=90->(∀D H2,Same H1 H2->H2 D=some (.lst ((jJ g kd).map V.int))->Q (.ref D) H2)->Calls P w K mg base n f [.int kd] H1 Q
theorem ay6{H H1:Hp}{f:Addr}(s:Same H H1)(h:FnHO H f):FnHO H1 f:=by
 obtain⟨oc,od,fd,sl,e⟩:=h;exact⟨oc,od,fd,sl,s _ _ e⟩
def pZ(g:Int->Nat->Int)(kvs:List (fA×V)):Prop:=∀(k:Int) (v:V),ir kvs (.inl k)=some v->v=.int (wK g k)
theorem Ot{g:Int->Nat->Int}{kvs:List (fA×V)}(h:pZ g kvs)(k:Int):pZ g (iV kvs (.inl k) (.int (wK g k))):=λj v e=>by
 rw[FJ] at e;by_cases c:(Sum.inl j:fA)=.inl k
 ·rw[if_pos c] at e;cases c;exact (bF e).symm
 ·rw[if_neg c] at e;exact h j v e
theorem aG9(x:Int):(if 0>x then 0 else x)=max x 0:=by split<;>omega
theorem Oy(g:Int->Nat->Int){k:Int}(h0:0<=k)(h1:k<=90):(jJ g k).length<=31:=by
 rw[vK];have:=(pB h0 h1).2.1;omega
noncomputable def BS(x:Str):Str:=x++".<locals>."++"<lambda>"
def mO(H:Hp)(Pt:Addr)(lp:Pos)(q:Str):Prop:=H Pt=some (.tbl #[])∨∃c0,H Pt=some (.tbl #[rawInt lp.line,rawInt lp.col,.ref c0])/\H c0=some (lh c0 q)
theorem Re(lp:Pos)(c0:Addr):codeAmong lp [rawInt lp.line,rawInt lp.col,.ref c0]=some (.ref c0):=by simp[codeAmong,rawInt]
theorem IS{H H':Hp}{Pt:Addr}{lp:Pos}{q:Str}(s:Same H H')(h:mO H Pt lp q):mO H' Pt lp q:=by
 rcases h with h | ⟨c0,h,hc⟩
 ·exact .inl (s _ _ h)
 ·exact .inr ⟨c0,s _ _ h,s _ _ hc⟩
theorem ug{HL H':Hp}{a:Addr}{x:HO}(ha:HL a=none)(s':Same (upd HL a x) H'):Same HL (hU H' a):=λb o hb=>by
 have nb:b≠a:=λz=>by rw[z,ha] at hb;cases hb
 rw[jq nb];exact s' _ _ (by rw[eQ nb];exact hb)
def Xl(H HL:Hp)(f:Addr)(qual:Str)(params:Arguments)(body:Expr)(scope:Scope)(a:Addr)(pm:Value)(tN:Addr)(pN:Pos)(qN:Str):Prop:=
 H f=none/\SameN H HL/\(∃c' ctv,HL f=some (ik f (nZ qual params body scope "row" a pm c' ctv))/\HL c'=some (lh c' qual))/\mO HL tN pN qN
theorem Kt{H H':Hp}{bm:Addr}(s:SameN H H')(h:nS H bm):nS H' bm:=by
 obtain⟨ob,u,e,r⟩:=h;exact⟨ob,u,s _ _ (λ_ z=>by cases z) e,r⟩
theorem N5{H:Hp}{qual:Str}{params:Arguments}{body:Expr}{scope:Scope}{a tN bm:Addr}{pm:Value}{pN:Pos}{Q:VK}(h1:mO H tN pN qual)(hbm:nS H bm)(h:∀f HL,Xl H HL f qual params body scope a pm tN pN qual->Q (.ref f) HL){σ:L2.St}:FO tN bm pN qual params body scope "row" a pm σ H Q:=by
 have oth:∀{b:Addr} {o:HO},H b=some o->(∀ps,o≠ .tbl ps)->b≠tN:=λhb n z=>by
  rcases h1 with e | ⟨c0,e,_⟩<;>(rw[z,e] at hb;exact n _ (bF hb).symm)
 rcases h1 with e | ⟨c0,e,hc⟩
 ·refine⟨hbm,#[],e,True.intro,.inl ⟨rfl,λf c' ctv hf hc' hcf=>h f _ ⟨hf,λb o n hb=>?_,⟨c',ctv,dY,?_⟩,?_⟩⟩⟩
  ·rw[eQ (λz=>by rw[z,hf] at hb;cases hb),eQ (λz=>by rw[z,hc'] at hb;cases hb),eQ (oth hb n)];exact hb
  ·rw[eQ hcf,dY]
  ·refine .inr ⟨c',?_,by rw[eQ hcf,dY]⟩;rw[eQ (λz=>by rw[z,hf] at e;cases e),eQ (λz=>by rw[z,hc'] at e;cases e),dY];rfl
 ·refine⟨hbm,_,e,(by simp[TriplesOk,rawInt]),.inr ⟨c0,Re pN c0,hc,λf ctv hf=>h f _ ⟨hf,jQ (eE hf _),⟨c0,ctv,dY,eE hf _ _ _ hc⟩,IS (eE hf _) (.inr ⟨c0,e,hc⟩)⟩⟩⟩
def kH(H:Hp)(tN bm:Addr):Prop:=mO H tN ⟨610,21,610,51⟩ (BS "next_from")/\nS H bm
theorem pU{H H':Hp}{tN bm:Addr}(s:Same H H')(h:kH H tN bm):kH H' tN bm:=⟨IS s h.1,Kt (jQ s) h.2⟩
noncomputable abbrev DF:=Int->Nat->Int
noncomputable abbrev Fl:=List (Str×V)
noncomputable def allT:Int:=1*2^(1440:Int).toNat-1
noncomputable def zF:DF:=λ_ _=>0
noncomputable def lG(fs:List DF)(k:Int)(j:Nat):Int:=fs.foldl (λa g=>Builtin.bitOr a (g k j)) 0
noncomputable def k6(fs:List DF)(k:Int)(j:Nat):Int:=fs.foldl (λa g=>Builtin.bitAnd a (g k j)) allT
noncomputable def DR(f g:DF):DF:=λk j=>Builtin.bitAnd (f k j) (Builtin.bitNot (g k j))
noncomputable def Hu(f:DF):DF:=λk j=>Builtin.bitXor allT (f k j)
noncomputable def mq:List DF->DF
 |[a,b]=>DR a b
 |_=>zF
noncomputable def j8:List DF->DF
 |[a]=>Hu a
 |_=>zF
def Kp(A:Addr->Prop)(H H':Hp):Prop:=∀b o,H b=some o->(∀ps,o≠ .tbl ps)->(A b∨∀xs,o≠ .lst xs)->H' b=some o
section
variable{A A':Addr->Prop}{H H':Hp}{D p:Addr}{l l':List V}{c:Cs}{CR:Addr}{m0 m1 m3:Int}{kd kw:Ko}{v:V}
theorem iu(s:Same H H'):Kp A H H':=λb o h _ _=>s b o h
theorem rY(s:SameN H H'):Kp A H H':=λb o h n _=>s b o n h
theorem pV(hD:H D=some (.lst l))(na:∀p,A p->p≠D):Kp A H (upd H D (.lst l')):=λb o h _ z=>by
 rw[eQ (λe=>by subst e;rcases z with z | z;(· exact na _ z rfl);(· rw[hD] at h;exact z _ (bF h).symm))]
 exact h
def RowA(A:Addr->Prop)(c:Cs)(CR:Addr)(H:Hp)(p:Addr)(m0 m1 m3:Int)(kd kw:Ko):Prop:=∃(dx:Addr) (dv wv:V),H p=some (.ins CR dx (gQ m0 m1 dv m3 wv (hV m1 m0)))/\(0<=m0/\0<=m1/\0<=m3)/\(m1<2^24/\m0<2^60)/\DV c H dv kd/\DV c H wv kw/\(∀p,dv=.ref p->A p)/\∀p,wv=.ref p->A p
theorem RowA.rr(h:RowA A c CR H p m0 m1 m3 kd kw):RowR c CR H p m0 m1 m3 kd kw:=by
 obtain⟨dx,dv,wv,h1,h2,h3,h4,h5,_⟩:=h;exact⟨dx,dv,wv,h1,h2,h3,h4,h5⟩
theorem FU(k:Kp A H H'){v:V}(a:∀p,v=.ref p->A p):∀{ko:Ko},DV c H v ko->DV c H' v ko
 |none,h=>h
 |some _,⟨p,qs,e,h1,h2,h3⟩=>⟨p,qs,e,k _ _ h1 (λ_ z=>by cases z) (.inl (a p e)),Paired.imp' (λx m z=>by cases m<;>(obtain⟨dx,z⟩:=z;exact⟨dx,k _ _ z (λ_ y=>by cases y) (.inr λ_ y=>by cases y)⟩)) h2,h3⟩
theorem RowA.go(m:∀p,A p->A' p)(k:Kp A H H')(h:RowA A c CR H p m0 m1 m3 kd kw):RowA A' c CR H' p m0 m1 m3 kd kw:=by
 obtain⟨dx,dv,wv,h1,h2,h3,h4,h5,a1,a2⟩:=h;exact⟨dx,dv,wv,k _ _ h1 (λ_ z=>by cases z) (.inr λ_ z=>by cases z),h2,h3,FU k a1 h4,FU k a2 h5,λp e=>m p (a1 p e),λp e=>m p (a2 p e)⟩
theorem Ig{v:V}{ko:Ko}(h:DV c H v ko)(e:v=.ref p):H p≠none:=λz=>by
 subst e;cases ko with
 |none=>cases h
 |some ks=>
  obtain⟨p',qs,e',h1,_⟩:=h;cases e';rw[z] at h1;cases h1
theorem RowA.inn(h:RowA A c CR H p m0 m1 m3 kd kw):RowA (λp=>A p/\H p≠none) c CR H p m0 m1 m3 kd kw:=by
 obtain⟨dx,dv,wv,h1,h2,h3,h4,h5,a1,a2⟩:=h;exact⟨dx,dv,wv,h1,h2,h3,h4,h5,λp e=>⟨a1 p e,Ig h4 e⟩,λp e=>⟨a2 p e,Ig h5 e⟩⟩
end
inductive Kc
 |B | O | J | M | L | T
structure Bc where
 m:Cs
 R:Addr
 k:Kc->Addr
noncomputable def eJ(B O J M L T:Addr):Kc->Addr
 |.B=>B
 |.O=>O
 |.J=>J
 |.M=>M
 |.L=>L
 |.T=>T
noncomputable abbrev Bt:=Int×Int×DF
noncomputable def gM(g:List DF->DF)(bs:List Bt):Bt:=(1+(bs.map (·.1)).sum,1+(bs.map (·.2.1)).foldl max 0,g (bs.map (·.2.2)))
def RwP(A:Addr->Prop)(c:Bc)(H:Hp)(v:V)(tm:Int)(f:DF):Prop:=∃(x:Addr) (m0 m1 m3:Int) (kd kw:Ko),v=.ref x/\RowA A c.m c.R H x m0 m1 m3 kd kw/\tm=hV m1 m0/\f=i8 tm m3 kd kw
def Sh(A:Addr->Prop)(c:Bc)(H:Hp):Kc->Fl->List V->(List DF->DF)->Prop
 |.B,fs,vs,g=>fs=[]/\vs=[]/\g=λ_=>zF
 |.O,fs,vs,g=>∃r tm f,fs=([("row",r)]:Fl)/\vs=[]/\RwP A c H r tm f/\g=λ_=>f
 |.J,fs,vs,g=>∃t,fs=([("books",.ref t)]:Fl)/\H t=some (.tup vs)/\0<vs.length/\g=lG
 |.M,fs,vs,g=>∃t,fs=([("books",.ref t)]:Fl)/\H t=some (.tup vs)/\0<vs.length/\g=k6
 |.L,fs,vs,g=>∃u w,fs=([("one",u),("other",w)]:Fl)/\vs=[u,w]/\g=mq
 |.T,fs,vs,g=>∃u,fs=([("one",u)]:Fl)/\vs=[u]/\g=j8
def BkC(A:Addr->Prop)(c:Bc)(P:V->Bt->Prop)(H:Hp)(i:Kc)(x:Addr)(b:Bt):Prop:=∃dx fs vs bs g,H x=some (.ins (c.k i) dx fs)/\Sh A c H i fs vs g/\Paired P vs bs/\vs.length<=8/\b=gM g bs
def Bk(A:Addr->Prop)(c:Bc):Nat->Hp->V->Bt->Prop
 |0,_,_,_=>False
 |n+1,H,v,b=>∃i x,v=.ref x/\BkC A c (Bk A c n H) H i x b
section
variable{A A':Addr->Prop}{c:Bc}{H H':Hp}{v:V}{tm:Int}{f:DF}{b:Bt}
theorem RwP.go(m:∀p,A p->A' p)(k:Kp A H H')(h:RwP A c H v tm f):RwP A' c H' v tm f:=by
 obtain⟨x,m0,m1,m3,kd,kw,e,h,z⟩:=h;exact⟨x,m0,m1,m3,kd,kw,e,h.go m k,z⟩
theorem RwP.inn(h:RwP A c H v tm f):RwP (λp=>A p/\H p≠none) c H v tm f:=by
 obtain⟨x,m0,m1,m3,kd,kw,e,h,z⟩:=h;exact⟨x,m0,m1,m3,kd,kw,e,h.inn,z⟩
theorem Sh.go(m:∀p,A p->A' p)(k:Kp A H H'):∀{i:Kc} {fs:Fl} {vs:List V} {g:List DF->DF},Sh A c H i fs vs g->Sh A' c H' i fs vs g
 |.B,_,_,_,h=>h
 |.O,_,_,_,⟨r,tm,f,e,e2,h,z⟩=>⟨r,tm,f,e,e2,h.go m k,z⟩
 |.J,_,_,_,⟨t,e,h,z⟩=>⟨t,e,k _ _ h (λ_ z=>by cases z) (.inr λ_ z=>by cases z),z⟩
 |.M,_,_,_,⟨t,e,h,z⟩=>⟨t,e,k _ _ h (λ_ z=>by cases z) (.inr λ_ z=>by cases z),z⟩
 |.L,_,_,_,h=>h
 |.T,_,_,_,h=>h
theorem BkC.go{P P':V->Bt->Prop}(m:∀p,A p->A' p)(k:Kp A H H')(hp:∀v b,P v b->P' v b){i:Kc}{x:Addr}(h:BkC A c P H i x b):BkC A' c P' H' i x b:=by
 obtain⟨dx,fs,vs,bs,g,hx,hs,hq,z⟩:=h;exact⟨dx,fs,vs,bs,g,k _ _ hx (λ_ z=>by cases z) (.inr λ_ z=>by cases z),hs.go m k,Paired.mapP hq hp,z⟩
theorem Bk.go(m:∀p,A p->A' p)(k:Kp A H H'):∀(n:Nat) {v:V} {b:Bt},Bk A c n H v b->Bk A' c n H' v b
 |0,_,_,h=>h
 |n+1,_,_,⟨i,x,e,h⟩=>⟨i,x,e,h.go m k λ_ _ z=>Bk.go m k n z⟩
theorem Bk.same(s:Same H H'){n:Nat}(h:Bk A c n H v b):Bk A c n H' v b:=h.go (λ_ z=>z) (iu s) n
theorem Bk.up:∀(n:Nat) {v:V} {b:Bt},Bk A c n H v b->Bk A c (n+1) H v b
 |0,_,_,h=>h.elim
 |n+1,_,_,⟨i,x,e,h⟩=>⟨i,x,e,h.go (λ_ z=>z) (iu (Same.refl _)) λ_ _ z=>Bk.up n z⟩
theorem Sh.lk{nm:Str}(h1:(nm=="row")=false)(h2:(nm=="books")=false)(h3:(nm=="one")=false)(h4:(nm=="other")=false):∀{i:Kc} {fs:Fl} {vs:List V} {g:List DF->DF},Sh A c H i fs vs g->fs.lookup nm=none
 |.B,_,_,_,h=>by rw[h.1];rfl
 |.O,_,_,_,⟨_,_,_,e,_⟩=>by rw[e];simp[List.lookup,h1]
 |.J,_,_,_,⟨_,e,_⟩=>by rw[e];simp[List.lookup,h2]
 |.M,_,_,_,⟨_,e,_⟩=>by rw[e];simp[List.lookup,h2]
 |.L,_,_,_,⟨_,_,e,_⟩=>by rw[e];simp[List.lookup,h3,h4]
 |.T,_,_,_,⟨_,e,_⟩=>by rw[e];simp[List.lookup,h3]
end
def fW(c:Bc)(PR:Bt->List V->Hp->VK->Prop):Nat->Kc->Sp
 |0,_=>λ_ _ _ _=>False
 |n+1,i=>λvs H Q _=>∃(A:Addr->Prop) (x:Addr) (as:List V) (b:Bt),vs=.ref x::as/\BkC A c (Bk A c n H) H i x b/\PR b as H Q
def Mo(P:Program)(w:World)(K:FG)(mg:Str->Option Value)(base:Heap)(c:Bc)(nm:Str)(ps:List Str)(k:Nat)(S:Kc->Sp):Prop:=∀i:Kc,Cls K (c.k i)/\fZ P w K mg base (c.k i) nm k ps (S i)
def qP(ta:TE):Prop:=∀σ H R,ta σ H R->∃v H1,R v H1/\∀R',R' v H1->ta σ H R'
theorem k7{i:Nat}:qP (mE i):=λ_ H _ ⟨v,e,r⟩=>⟨v,H,r,λ_ r'=>⟨v,e,r'⟩⟩
theorem yz{K:FG}{ta:TE}{f:Str}(d:qP ta):qP (qC K ta f):=λσ H R h=>by
 obtain⟨v,H1,⟨a,C,dx,fs,u,e,h1,h2,h3,h4,r⟩,back⟩:=d σ H _ h;exact⟨u,H1,r,λR' r'=>back _ ⟨a,C,dx,fs,u,e,h1,h2,h3,h4,r'⟩⟩
theorem Ij{X:Cx}{e:Expr}{ι:Type}{t:ι->TE}(h:∀i,E X e (t i)):E X e (λσ H Q=>∃i,t i σ H Q):=⟨λpins s σ H Q I z=>by
 obtain⟨i,z⟩:=z;exact (h i).h pins s σ H Q I z⟩
theorem lP{X:Cx}{o e:Expr}{ta:TE}{j:Nat}{pos apos:Pos}{c:Bc}{nm:Str}{ps:List Str}{k k' n:Nat}{PR:Bt->List V->Hp->VK->Prop}{pl:Sem Bool}(M:Mo X.prog X.w X.K X.mg X.base c nm ps k (fW c PR n))(hr:Room k' X.A)(ho:E X o ta)(dt:qP ta)(he:E X e (mE j))(hk:k<=k':=by first | decide | omega)
  (h1:(nm=="row")=false:=by decide +kernel) (h2:(nm=="books")=false:=by decide +kernel) (h3:(nm=="one")=false:=by decide +kernel) (h4:(nm=="other")=false:=by decide +kernel)
  (hst:starEach [e] X.env=[(false,eval e X.env)]:=by rfl) (hpl:(backTo pos (starEach [] X.env)).any (·.1)=false:=by rfl)
  (ht:eval (.Call (.Attribute o nm apos) [e] [] pos) X.env=(do
   let ov ←eval o X.env
   standAt apos.atName
   let (f,first) ←holding [ov] (getMethod ov nm pl)
   callWith pos f first (backTo pos (starEach [e] X.env)) (backToKw pos (keywordEach [] X.env))):=by rfl):
  E X (.Call (.Attribute o nm apos) [e] [] pos) (λσ H Q=>ta σ H λv H1=>∃A a b,σ[j]? =some (some a)/\Bk A c n H1 v b/\PR b [a] H1 Q):=by
 refine (Ij λi=>jm (M i).1 (M i).2 hr ho (aC he aN hst) hk hst hpl ht).as λσ H Q h=>?_;obtain⟨v,H1,⟨A,a,b,ea,hb,q⟩,back⟩:=dt σ H _ h;cases n with
 |zero=>exact hb.elim
 |succ n=>
  obtain⟨i,x,rfl,hb⟩:=hb;obtain⟨dx,fs,vs,bs,g,hx,hs,_⟩:=id hb;exact⟨i,back _ ⟨x,dx,fs,rfl,hx,hs.lk h1 h2 h3 h4,_,ea,A,x,[a],b,rfl,hb,q⟩⟩
theorem nW{X:Cx}{o:Expr}{j:Nat}{pos apos:Pos}{c:Bc}{nm:Str}{ps:List Str}{k k' n:Nat}{PR:Bt->List V->Hp->VK->Prop}{pl:Sem Bool}(M:Mo X.prog X.w X.K X.mg X.base c nm ps k (fW c PR n))(hr:Room k' X.A)(ho:E X o (mE j))(hk:k<=k':=by first | decide | omega)
  (h1:(nm=="row")=false:=by decide +kernel) (h2:(nm=="books")=false:=by decide +kernel) (h3:(nm=="one")=false:=by decide +kernel) (h4:(nm=="other")=false:=by decide +kernel)
  (ht:eval (.Call (.Attribute o nm apos) [] [] pos) X.env=(do
   let ov ←eval o X.env
   standAt apos.atName
   let (f,first) ←holding [ov] (getMethod ov nm pl)
   callWith pos f first (backTo pos (starEach [] X.env)) (backToKw pos (keywordEach [] X.env))):=by rfl):
  E X (.Call (.Attribute o nm apos) [] [] pos) (λσ H Q=>∃A v b,σ[j]? =some (some v)/\Bk A c n H v b/\PR b [] H Q):=by
 refine (Ij λi=>Gs (M i).1 (M i).2 hr ho hk ht).as λσ H Q h=>?_;obtain⟨A,v,b,ev,hb,q⟩:=h;cases n with
 |zero=>exact hb.elim
 |succ n=>
  obtain⟨i,x,rfl,hb⟩:=hb;obtain⟨dx,fs,vs,bs,g,hx,hs,_⟩:=id hb;exact⟨i,_,ev,x,dx,fs,rfl,hx,hs.lk h1 h2 h3 h4,A,x,[],b,rfl,hb,q⟩
def jK(b:Bt)(as:List V)(H:Hp)(Q:VK):Prop:=as=[]/\∀H',Same H H'->Q (.int b.1) H'
def jT(b:Bt)(as:List V)(H:Hp)(Q:VK):Prop:=as=[]/\∀H',Same H H'->Q (.int b.2.1) H'
noncomputable def gS(f:DF)(mo y m k:Int):Bool:=tb (f (kindOf y m) (k-1).toNat) (mo%1440).toNat
def jo(b:Bt)(as:List V)(H:Hp)(Q:VK):Prop:=∃mo y m k:Int,as=[.int mo]/\jn y m k/\io y m k=mo / 1440/\∀H',Same H H'->Q (.bl (gS b.2.2 mo y m k)) H'
section
variable{K:FG}{c:Bc}
def nz(K:FG)(c:Bc)(n:Nat):Sp:=λvs H Q _=>∃(A:Addr->Prop) (a:Addr) (us:List V) (bs:List Bt),vs=[.ref a]/\(SqL K H a us∨SqT K H a us)/\Paired (Bk A c n H) us bs/\us.length<=8/\∀H',Same H H'->Q (.int (1+(bs.map (·.1)).sum)) H'
def oe(K:FG)(c:Bc)(n:Nat):Sp:=λvs H Q _=>∃(A:Addr->Prop) (a:Addr) (us:List V) (bs:List Bt),vs=[.ref a]/\(SqL K H a us∨SqT K H a us)/\Paired (Bk A c n H) us bs/\us.length<=8/\0<us.length/\∀H',Same H H'->Q (.int (1+(bs.map (·.2.1)).foldl max 0)) H'
theorem ol:∀(l:List Int) (a:Int),a<=l.foldl max a/\(∀m∈l,m<=l.foldl max a)/\(l.foldl max a=a∨l.foldl max a∈l)
 |[],a=>⟨bB _,(λ_ h=>nomatch h),.inl rfl⟩
 |x::l,a=>by
  obtain⟨h1,h2,h3⟩:=ol l (max a x);show a<=l.foldl max (max a x)/\_/\_;refine⟨⋯,λm hm=>?_,?_⟩
  ·rcases bA.mp hm with rfl | hm
   ·show m<=l.foldl max (max a m);omega
   ·exact h2 m hm
  ·show l.foldl max (max a x)=a∨l.foldl max (max a x)∈x::l;rcases h3 with h3 | h3
   ·rw[h3];by_cases z:x<=a
    ·exact .inl ⋯
    ·exact .inr (bA.mpr (.inl ⋯))
   ·exact .inr (bP _ h3)
theorem Ih{l:List Int}{M:Int}(h1:M∈l)(h2:∀m∈l,m<=M)(h0:0<=M):M=l.foldl max 0:=by
 obtain⟨a,b,c⟩:=ol l 0;have:=b M h1;rcases c with c | c
 ·omega
 ·have:=h2 _ c;omega
theorem Bk.pos{A:Addr->Prop}{H:Hp}{n:Nat}{v:V}{b:Bt}(h:Bk A c n H v b):1<=b.2.1:=by
 cases n with
 |zero=>exact h.elim
 |succ n=>
  obtain⟨i,x,e,dx,fs,vs,bs,g,hx,hs,hq,hl,rfl⟩:=h;have:=(ol (bs.map (·.2.1)) 0).1;show 1<=1+(bs.map (·.2.1)).foldl max 0;omega
end
def Dv(bs:List Bt):Prop:=1+(bs.map (·.1)).sum<=24/\1+(bs.map (·.2.1)).foldl max 0<=5
def Some4(A:Addr->Prop)(c:Bc)(H:Hp)(us:List V)(bs:List Bt):Prop:=Paired (Bk A c 4 H) us bs/\us.length<=8/\0<us.length/\Dv bs
inductive ET (K:FG) (c:Bc) (vs:List V) (H:Hp) (Q:VK) (E:XK):Prop
 |mk (A:Addr->Prop) (a:Addr) (us:List V) (bs:List Bt) (_:vs=[.ref a]) (_:SqL K H a us) (_:Some4 A c H us bs) (_:∀t H',Same H H'->H' t=some (.tup us)->Q (.ref t) H')
inductive Bm (c:Bc) (vs:List V) (H:Hp) (Q:VK) (E:XK):Prop
 |mk (p dx x dr:Addr) (fr:Fl) (_:vs=[.ref p,.ref x]) (_:H p=some (.ins (c.k .O) dx [])) (_:H x=some (.ins c.R dr fr)) (_:Q .non (upd H p (.ins (c.k .O) dx [("row",.ref x)])))
inductive G7 (K:FG) (c:Bc) (i:Kc) (vs:List V) (H:Hp) (Q:VK) (E:XK):Prop
 |mk (p dx a:Addr) (A:Addr->Prop) (us:List V) (bs:List Bt) (_:vs=[.ref p,.ref a]) (_:H p=some (.ins (c.k i) dx [])) (_:SqL K H a us) (_:Some4 A c H us bs) (_:∀t H',H' p=some (.ins (c.k i) dx [("books",.ref t)])->H' t=some (.tup us)->(∀b o,H b=some o->b≠p->H' b=some o)->Q .non H')
inductive Co (c:Bc) (vs:List V) (H:Hp) (Q:VK) (E:XK):Prop
 |mk (p dx:Addr) (A:Addr->Prop) (u w:V) (bs:List Bt) (_:vs=[.ref p,u,w]) (_:H p=some (.ins (c.k .L) dx [])) (_:Some4 A c H [u,w] bs) (_:∀H',H' p=some (.ins (c.k .L) dx [("one",u),("other",w)])->(∀b o,H b=some o->b≠p->H' b=some o)->Q .non H')
inductive Ff (c:Bc) (vs:List V) (H:Hp) (Q:VK) (E:XK):Prop
 |mk (p dx:Addr) (A:Addr->Prop) (u:V) (bs:List Bt) (_:vs=[.ref p,u]) (_:H p=some (.ins (c.k .T) dx [])) (_:Some4 A c H [u] bs) (_:∀H',H' p=some (.ins (c.k .T) dx [("one",u)])->(∀b o,H b=some o->b≠p->H' b=some o)->Q .non H')
section
variable{K:FG}{c:Bc}{A:Addr->Prop}{H H':Hp}{v u w:V}{n:Nat}{b:Bt}{us:List V}{bs:List Bt}{x dx a:Addr}{E:XK}{R:Hp->Prop}
theorem Bk.upn(h:Bk A c n H v b):∀{m:Nat},n<=m->Bk A c m H v b
 |m,hm=>by
  obtain⟨d,rfl⟩:∃d,m=n+d:=⟨m-n,⋯⟩;clear hm;induction d with
  |zero=>exact h
  |succ d ih=>exact ih.up _
theorem Some4.of(h:Paired (Bk A c n H) us bs)(hn:n<=4)(hl:us.length<=8)(h0:0<us.length)(ok:Dv bs):Some4 A c H us bs:=⟨Paired.mapP h λ_ _ z=>z.upn hn,hl,h0,ok⟩
theorem Some4.same(s:Same H H')(h:Some4 A c H us bs):Some4 A c H' us bs:=⟨Paired.mapP h.1 λ_ _ z=>z.same s,h.2⟩
theorem Bk.isB(f:∀i,BF K (c.k .B) (c.k i) true)(h:Bk A c n H v b):DN K (c.k .B) H v true:=by
 cases n with
 |zero=>exact h.elim
 |succ n=>
  obtain⟨i,x,rfl,dx,fs,vs,bs,g,hx,_⟩:=h;exact (f i).is hx
theorem Ad(hp:Paired (Bk A c n H) [u] bs)(hn:n<=4)(ok:Dv bs)(q:∀H',Same H H'->Bk A c (n+1) H' (.ref x) (gM j8 bs)->R H')(nx:H x=none)(nd:H dx=none):Ff c (.ref x::([u]++[])) (upd (upd H dx (.own x)) x (.ins (c.k .T) dx [])) (λv H2=>v=.non/\R H2) E:=by
 have s:=ky (a:=.own x) (b:=.ins (c.k .T) dx []) nx nd;refine⟨x,dx,A,u,bs,rfl,dY,(Some4.of hp hn (by show 1<=8;decide) (by show 0<1;decide) ok).same s,λH' hx hs=>⟨rfl,?_⟩⟩;have s':=ox nx nd hs;exact q H' s' ⟨.T,x,rfl,dx,_,_,bs,j8,hx,⟨u,rfl,rfl,rfl⟩,Paired.mapP hp λ_ _ z=>z.same s',(by show 1<=8;decide),rfl⟩
end
theorem WY{h m:Int}(h0:0<=h)(h1:h<2^24)(hm:0<=m)(hm2:m<2^60){r:Nat}(e:tb (hV h m) r=true):tb h (r / 60)=true/\tb m (r%60)=true:=by
 unfold hV at e;rw[lW (λz hz=>by
  obtain⟨y,_,rfl⟩:=bI.mp hz;exact Int.mul_nonneg hm (b8 (jp _))),List.any_eq_true] at e
 obtain⟨_,hz,e⟩:=e;obtain⟨y,hy,rfl⟩:=bI.mp hz;rw[qO h0 h1,flt_mem] at hy;obtain⟨i,hi,hb,rfl⟩:=hy;rw[show (60*(0+(i:Int))).toNat=60*i by omega,qZ hm,bV,dO] at e;have hlt:r-60*i<60:=by
  rcases Nat.lt_or_ge (r-60*i) 60 with c | c
  ·exact c
  ·rw[nU hm2 c] at e;cases e.2
 rw[show r / 60=i by omega,show r%60=r-60*i by omega];exact⟨hb,e.2⟩
theorem Gq:ia 0:=⟨bB 0,by decide +kernel⟩
theorem Gh:allT=2^1440-1:=by
 unfold allT;rw[show ((1440:Int).toNat)=1440 from rfl,Int.one_mul]
theorem xm(i:Nat):tb allT i=decide (i<1440):=by rw[Gh];exact z3 1440 i
theorem lD:ia allT:=by
 rw[Gh];have:=jp 1440;exact⟨⋯,⋯⟩
theorem AB{t:Int}(h:ia t){i:Nat}(e:tb t i=true):i<1440:=by
 rcases Nat.lt_or_ge i 1440 with z | z
 ·exact z
 ·rw[nU h.2 z] at e;cases e
theorem va{t:Int}(h0:0<=t)(h:∀i,tb t i=true->i<1440):ia t:=⟨h0,Xq h0 h⟩
theorem X8{a b:Int}(ha:0<=a)(hb:0<=b):0<=Builtin.bitAnd a (Builtin.bitNot b):=by
 have h1:¬0<=Builtin.bitNot b:=by unfold Builtin.bitNot;omega
 unfold Builtin.bitAnd;rw[dN ha,dP h1];show 0<=a-((a.toNat&&& (Builtin.bitNot (Builtin.bitNot b)).toNat:Nat):Int);have:=Nat.and_le_left (n:=a.toNat) (m:=(Builtin.bitNot (Builtin.bitNot b)).toNat);omega
theorem MH(x y i:Nat):(x-(x&&& y)).testBit i=(x.testBit i&& !y.testBit i):=by
 have e:x-(x&&& y)=x^^^(x&&& y):=by
  have h:(x^^^(x&&& y))+(x&&& y)=x:=by
   have h1:(x^^^(x&&& y))&&& (x&&& y)=0:=by
    apply Nat.eq_of_testBit_eq;intro j;rw[Nat.testBit_and,Nat.testBit_xor,Nat.testBit_and,Nat.zero_testBit];cases x.testBit j<;>cases y.testBit j<;>rfl
   have h2:(x^^^(x&&& y))||| (x&&& y)=x:=by
    apply Nat.eq_of_testBit_eq;intro j;rw[Nat.testBit_or,Nat.testBit_xor,Nat.testBit_and];cases x.testBit j<;>cases y.testBit j<;>rfl
   have h3:=nat_or_add_and (x^^^(x&&& y)) (x&&& y);rw[h1,h2] at h3;omega
  omega
 rw[e,Nat.testBit_xor,Nat.testBit_and];cases x.testBit i<;>cases y.testBit i<;>rfl
theorem AC{a b:Int}(ha:0<=a)(hb:0<=b)(i:Nat):tb (Builtin.bitAnd a (Builtin.bitNot b)) i=(tb a i&& !tb b i):=by
 have h1:¬0<=Builtin.bitNot b:=by unfold Builtin.bitNot;omega
 have e:Builtin.bitAnd a (Builtin.bitNot b)=a-((a.toNat&&& b.toNat:Nat):Int):=by
  unfold Builtin.bitAnd;rw[dN ha,dP h1];show a-((a.toNat&&& (Builtin.bitNot (Builtin.bitNot b)).toNat:Nat):Int)=_;rw[show Builtin.bitNot (Builtin.bitNot b)=b by unfold Builtin.bitNot;omega]
 rw[e];obtain⟨x,rfl⟩:=bY ha;obtain⟨y,rfl⟩:=bY hb;unfold tb;rw[bQ,bQ,←MH];congr 1;have:=Nat.and_le_left (n:=x) (m:=y);omega
theorem Lj{a b:Int}(ha:0<=a)(hb:0<=b):0<=Builtin.bitXor a b:=by
 obtain⟨x,rfl⟩:=bY ha;obtain⟨y,rfl⟩:=bY hb;unfold Builtin.bitXor;rw[pM,ym];have h1:=Nat.and_le_left (n:=x) (m:=y);have h2:=Nat.left_le_or (n:=x) (m:=y);omega
theorem Hq{a:Int}(ha:ia a)(i:Nat):tb (Builtin.bitXor allT a) i=(decide (i<1440)&& !tb a i):=by
 have e:Builtin.bitXor allT a=Builtin.bitAnd allT (Builtin.bitNot a):=by
  have ha0:=ha.1;have h1:¬0<=Builtin.bitNot a:=by unfold Builtin.bitNot;omega
  unfold Builtin.bitXor;have eo:Builtin.bitOr allT a=allT:=ki (kW lD.1 ha.1) lD.1 λj=>by
   rw[mW lD.1 ha.1,xm];cases c:tb a j
   ·rw[Bool.or_false]
   ·rw[dN (AB ha c)];rfl
  rw[eo]
  conv=>rhs;unfold Builtin.bitAnd
  rw[dN lD.1,dP h1];show allT-Builtin.bitAnd allT a=allT-((allT.toNat&&& (Builtin.bitNot (Builtin.bitNot a)).toNat:Nat):Int);rw[show Builtin.bitNot (Builtin.bitNot a)=a by unfold Builtin.bitNot;omega,bitAnd_pp lD.1 ha.1]
 rw[e,AC lD.1 ha.1,xm]
theorem NP{a:Int}(ha:ia a):ia (Builtin.bitXor allT a):=va (Lj lD.1 ha.1) λi e=>by
 rw[Hq ha] at e;exact dM (Bool.and_eq_true_iff.mp e).1
theorem Xz{a b:Int}(ha:ia a)(hb:ia b):ia (Builtin.bitOr a b):=⟨kW ha.1 hb.1,VD ha.1 hb.1 ha.2 hb.2⟩
theorem Ri{a b:Int}(ha:ia a)(hb:0<=b):ia (Builtin.bitAnd a b):=va (m8 ha.1 hb) λi e=>by
 rw[mQ ha.1 hb] at e;exact AB ha (Bool.and_eq_true_iff.mp e).1
theorem VJ{a b:Int}(ha:ia a)(hb:ia b):ia (Builtin.bitAnd a (Builtin.bitNot b)):=va (X8 ha.1 hb.1) λi e=>by
 rw[AC ha.1 hb.1] at e;exact AB ha (Bool.and_eq_true_iff.mp e).1
theorem sh{g:Int->Int->Int}(hg:∀{a b:Int},ia a->ia b->ia (g a b))(k:Int)(j:Nat):∀(fs:List DF) (a:Int),ia a->(∀f∈fs,gG f)->ia (fs.foldl (λa f=>g a (f k j)) a)
 |[],_,h,_=>h
 |f::r,a,h,hf=>sh hg k j r _ (hg h (hf f (bS ..) k j)) λz hz=>hf z (bP _ hz)
theorem Kn{fs:List DF}(h:∀f∈fs,gG f):gG (lG fs):=λk j=>sh Xz k j fs 0 Gq h
theorem JX{fs:List DF}(h:∀f∈fs,gG f):gG (k6 fs):=λk j=>sh (λha hb=>Ri ha hb.1) k j fs allT lD h
theorem rg:gG (λ_ _=>0):=λ_ _=>Gq
theorem Ld{f g:DF}(hf:gG f)(hg:gG g):gG (λk j=>Builtin.bitAnd (f k j) (Builtin.bitNot (g k j))):=λk j=>VJ (hf k j) (hg k j)
theorem aPC{f:DF}(hf:gG f):gG (λk j=>Builtin.bitXor allT (f k j)):=λk j=>NP (hf k j)
theorem V0{h m:Int}(h0:0<=h)(h1:h<2^24)(hm:0<=m)(hm2:m<2^60)(r:Nat):tb (hV h m) r=(tb h (r / 60)&&tb m (r%60)):=by
 rw[cL,bV];exact⟨WY h0 h1 hm hm2,λz=>F4 h0 h1 hm z.1 z.2⟩
theorem Hx{m0 m1 m3 t y m k:Int}{kd kw:Ko}(hn:0<=m0/\0<=m1/\0<=m3)(hb:m1<2^24/\m0<2^60)(ok:jn y m k)(e:io y m k=t / 1440):decide (jw m0 m1 m3 kd kw (t / 1440) (t%1440) y m k=.non)=gS (i8 (hV m1 m0) m3 kd kw) t y m k:=by
 have f7:=qv ok e;have mk:=m9 (y:=y) ok.1.1 ok.1.2;have a6:(k-1).toNat+1=k.toNat:=by have:=ok.2;omega
 obtain⟨_,_,u3,u4⟩:=EL t 0;unfold gS i8 kS;rw[mk.1,mk.2,f7,a6];by_cases c1:tb m3 m.toNat=true
 ·rw[if_pos c1];by_cases c2:tb (iQ kd kw (fC y m) ((t / 1440-k+1+6)%7)) k.toNat=true
  ·rw[if_pos c2,V0 hn.2.1 hb.1 hn.1 hb.2,u3,u4];cases c3:tb m1 (t%1440 / 60).toNat
   ·rw[CQ c1 c2 c3];rfl
   ·cases c4:tb m0 (t%1440%60).toNat
    ·rw[zk c1 c2 c3 c4];rfl
    ·rw[Av c1 c2 c3 c4];rfl
  ·rw[if_neg c2,Cp c1 (by simpa using c2),ji];rfl
 ·rw[if_neg c1,ji,uT (by simpa using c1)];show _=tb (if false=true then _ else _) _;rw[if_neg (by decide),ji];rfl
theorem Ic{k:Int}{j i:Nat}:∀(fs:List DF) (a:Int),0<=a->(∀f∈fs,gG f)->tb (fs.foldl (λa g=>Builtin.bitOr a (g k j)) a) i=(tb a i||fs.any λf=>tb (f k j) i)
 |[],a,_,_=>(Bool.or_false _).symm
 |f::fs,a,h,hf=>by
  have h1:=(hf f (bS ..) k j).1;show tb (fs.foldl _ (Builtin.bitOr a (f k j))) i=(_||(tb (f k j) i||fs.any _))
  rw[Ic fs _ (kW h h1) (λg hg=>hf g (bP _ hg)),mW h h1,Bool.or_assoc]
theorem JH{k:Int}{j i:Nat}:∀(fs:List DF) (a:Int),0<=a->(∀f∈fs,gG f)->tb (fs.foldl (λa g=>Builtin.bitAnd a (g k j)) a) i=(tb a i&&fs.all λf=>tb (f k j) i)
 |[],a,_,_=>(Bool.and_true _).symm
 |f::fs,a,h,hf=>by
  have h1:=(hf f (bS ..) k j).1;show tb (fs.foldl _ (Builtin.bitAnd a (f k j))) i=(_&&(tb (f k j) i&&fs.all _));rw[JH fs _ (m8 h h1) (λg hg=>hf g (bP _ hg)),mQ h h1,Bool.and_assoc]
theorem I8:∀{gs:List DF},(∀f∈gs,gG f)->gG (mq gs)
 |[a,b],h=>Ld (h a (by simp)) (h b (by simp))
 |[],_ | [_],_ | _::_::_::_,_=>rg
theorem Ga:∀{gs:List DF},(∀f∈gs,gG f)->gG (j8 gs)
 |[a],h=>aPC (h a (by simp))
 |[],_ | _::_::_,_=>rg
section
variable{A:Addr->Prop}{c:Bc}{H:Hp}{v:V}{b:Bt}{mo y m k:Int}
theorem T4:∀{i:Kc} {fs:Fl} {vs:List V} {g:List DF->DF},Sh A c H i fs vs g->∀{gs:List DF},(∀f∈gs,gG f)->gG (g gs)
 |.B,_,_,_,⟨_,_,e⟩,_,_=>by rw[e];exact rg
 |.O,_,_,_,⟨_,_,_,_,_,⟨x,m0,m1,m3,kd,kw,_,h,e1,e2⟩,e⟩,_,_=>by rw[e,e2,e1];exact h.rr.ok
 |.J,_,_,_,⟨_,_,_,_,e⟩,_,h=>by rw[e];exact Kn h
 |.M,_,_,_,⟨_,_,_,_,e⟩,_,h=>by rw[e];exact JX h
 |.L,_,_,_,⟨_,_,_,_,e⟩,gs,h=>by rw[e];exact I8 h
 |.T,_,_,_,⟨_,_,_,e⟩,gs,h=>by rw[e];exact Ga h
theorem Bk.ok:∀{n:Nat} {v:V} {b:Bt},Bk A c n H v b->gG b.2.2
 |0,_,_,h=>h.elim
 |n+1,_,_,⟨i,x,_,dx,fs,vs,bs,g,_,hs,hp,_,e⟩=>by
  rw[e];refine T4 hs λf hf=>?_;obtain⟨b,hb,rfl⟩:=bI.mp hf;obtain⟨u,_,hu⟩:=mC hp b hb;exact Bk.ok hu
theorem Gv{n:Nat}{vs:List V}{bs:List Bt}(hp:Paired (Bk A c n H) vs bs):∀f∈bs.map (·.2.2),gG f:=λf hf=>by
 obtain⟨b,hb,rfl⟩:=bI.mp hf;obtain⟨u,_,hu⟩:=mC hp b hb;exact hu.ok
theorem Gw:(mo%1440).toNat<1440:=⋯
theorem EF{fs:List DF}(h:∀f∈fs,gG f):gS (lG fs) mo y m k=fs.any λf=>gS f mo y m k:=(Ic fs 0 (bB 0) h).trans (by rw[ji];rfl)
theorem JS{fs:List DF}(h:∀f∈fs,gG f):gS (k6 fs) mo y m k=fs.all λf=>gS f mo y m k:=(JH fs allT lD.1 h).trans (by rw[xm,dN Gw];rfl)
theorem EI{f g:DF}(hf:gG f)(hg:gG g):gS (DR f g) mo y m k=(gS f mo y m k&& !gS g mo y m k):=AC (hf _ _).1 (hg _ _).1 _
theorem zb{f:DF}(hf:gG f):gS (Hu f) mo y m k= !gS f mo y m k:=(Hq (hf _ _) _).trans (by rw[dN Gw];rfl)
theorem Im:gS zF mo y m k=false:=ji _
end
def DVf(c:Cs)(D:Addr)(H0 H:Hp)(v:V)(ko:Ko):Prop:=DV c H v ko/\∀p,v=.ref p->p≠D/\H0 p=none
theorem DVf.keep{c:Cs}{H0:Hp}{D:Addr}{H H':Hp}(s:Same H H'){v:V}{ko:Ko}(h:DVf c D H0 H v ko):DVf c D H0 H' v ko:=⟨h.1.keep s,h.2⟩
theorem DVf.upd{c:Cs}{H0:Hp}{D:Addr}{H:Hp}{l':List V}{v:V}:∀{ko:Ko},DVf c D H0 H v ko->(∃l,H D=some (.lst l))->DVf c D H0 (upd H D (.lst l')) v ko
 |none,h,_=>h
 |some ks,⟨⟨p,qs,e,h1,h2,h3⟩,hn⟩,⟨l,hl⟩=>⟨⟨p,qs,e,by rw[eQ (hn p e).1];exact h1,h2.keepM (qW hl),h3⟩,hn⟩
def RRf(c:Cs)(H0:Hp)(m0 m1 m3:Int)(kd kw:Ko)(D:Addr)(i:Nat)(l:List V)(H:Hp):Prop:=match i with
 |0=>l=[]
 |1=>l=[.int m0]
 |2=>l=[.int m0,.int m1]
 |3=>∃dv,l=[.int m0,.int m1,dv]/\DVf c D H0 H dv kd
 |4=>∃dv,l=[.int m0,.int m1,dv,.int m3]/\DVf c D H0 H dv kd
 |_=>∃dv wv,l=[.int m0,.int m1,dv,.int m3,wv]/\DVf c D H0 H dv kd/\DVf c D H0 H wv kw
theorem RRf.keep{c:Cs}{H0:Hp}{m0 m1 m3:Int}{kd kw:Ko}{D:Addr}{l:List V}{H H':Hp}(s:Same H H'):∀{i:Nat},RRf c H0 m0 m1 m3 kd kw D i l H->RRf c H0 m0 m1 m3 kd kw D i l H'
 |0,h=>h
 |1,h=>h
 |2,h=>h
 |3,⟨dv,e,h⟩=>⟨dv,e,h.keep s⟩
 |4,⟨dv,e,h⟩=>⟨dv,e,h.keep s⟩
 |_+5,⟨dv,wv,e,h,h'⟩=>⟨dv,wv,e,h.keep s,h'.keep s⟩
theorem RRf.upd{c:Cs}{H0:Hp}{m0 m1 m3:Int}{kd kw:Ko}{D:Addr}{l l':List V}{H:Hp}(hl:∃l,H D=some (.lst l)):∀{i:Nat},RRf c H0 m0 m1 m3 kd kw D i l H->RRf c H0 m0 m1 m3 kd kw D i l (upd H D (.lst l'))
 |0,h=>h
 |1,h=>h
 |2,h=>h
 |3,⟨dv,e,h⟩=>⟨dv,e,h.upd hl⟩
 |4,⟨dv,e,h⟩=>⟨dv,e,h.upd hl⟩
 |_+5,⟨dv,wv,e,h,h'⟩=>⟨dv,wv,e,h.upd hl,h'.upd hl⟩
theorem hG{ds ss:List Int}{z:Int}(h:Digs ds (z::ss)):∃d r,ds=d::r/\(0<=d/\d<z)/\Digs r ss:=by
 cases h with
 |cons h t=>exact⟨_,(),h,t⟩
theorem qz{ds:List Int}(h:Digs ds []):ds=[]:=by cases h;rfl
theorem Mr{ds:List Int}(h:Digs ds [8,2,12,31,10,8,5,7,12,12,9,7,24,24,9,7,60,60,9]):∃x0 x1 x2 x3 x4 x5 x6 x7 x8 x9 x10 x11 x12 x13 x14 x15 x16 x17 x18:Int,ds=[x0,x1,x2,x3,x4,x5,x6,x7,x8,x9,x10,x11,x12,x13,x14,x15,x16,x17,x18]/\(0<=x0/\x0<8)/\(0<=x1/\x1<2)/\(0<=x2/\x2<12)/\(0<=x3/\x3<31)/\(0<=x4/\x4<10)/\(0<=x5/\x5<8)/\(0<=x6/\x6<5)/\(0<=x7/\x7<7)/\(0<=x8/\x8<12)/\(0<=x9/\x9<12)/\(0<=x10/\x10<9)/\(0<=x11/\x11<7)/\(0<=x12/\x12<24)/\(0<=x13/\x13<24)/\(0<=x14/\x14<9)/\(0<=x15/\x15<7)/\(0<=x16/\x16<60)/\(0<=x17/\x17<60)/\(0<=x18/\x18<9):=by
 obtain⟨x0,r0,rfl,h0,h⟩:=hG h;obtain⟨x1,r1,rfl,h1,h⟩:=hG h;obtain⟨x2,r2,rfl,h2,h⟩:=hG h;obtain⟨x3,r3,rfl,h3,h⟩:=hG h;obtain⟨x4,r4,rfl,h4,h⟩:=hG h;obtain⟨x5,r5,rfl,h5,h⟩:=hG h;obtain⟨x6,r6,rfl,h6,h⟩:=hG h;obtain⟨x7,r7,rfl,h7,h⟩:=hG h;obtain⟨x8,r8,rfl,h8,h⟩:=hG h;obtain⟨x9,r9,rfl,h9,h⟩:=hG h;obtain⟨x10,r10,rfl,h10,h⟩:=hG h;obtain⟨x11,r11,rfl,h11,h⟩:=hG h;obtain⟨x12,r12,rfl,h12,h⟩:=hG h;obtain⟨x13,r13,rfl,h13,h⟩:=hG h
 obtain⟨x14,r14,rfl,h14,h⟩:=hG h;obtain⟨x15,r15,rfl,h15,h⟩:=hG h;obtain⟨x16,r16,rfl,h16,h⟩:=hG h;obtain⟨x17,r17,rfl,h17,h⟩:=hG h;obtain⟨x18,r18,rfl,h18,h⟩:=hG h;obtain rfl:=qz h;exact⟨x0,x1,x2,x3,x4,x5,x6,x7,x8,x9,x10,x11,x12,x13,x14,x15,x16,x17,x18,rfl,h0,h1,h2,h3,h4,h5,h6,h7,h8,h9,h10,h11,h12,h13,h14,h15,h16,h17,h18⟩
theorem C1{lo hi:Int}{ws:List (List Nat)}{nss:List (List Int)}(h:Paired (kq lo hi) ws nss)(hne:ws≠[])(hn:ws.length<=20)(h0:0<=lo)(h1:0<=hi):∃m,FT lo hi (gT 44 ws) m/\m<2^(hi.toNat+1):=
 ⟨_,Kh h hne hn,GF (n:=hi.toNat+1) λn hn=>by have:=(pv h).2.1 n hn;omega⟩
theorem aJZ{lo hi a:Int}{t:List Nat}(h:0<=lo/\lo<=a/\a<=hi/\hi<=63)(e:num a.toNat=t):FT lo hi t (iK [a]):=by
 have:=Kh (ws:=[num a.toNat]) (nss:=[[a]]) (.cons (i1 h.1 h.2.1 h.2.2.1 h.2.2.2) .nil) (cD _ _) (by show 1<=20;decide);rw[←e];exact this
theorem lj{b:Bool}{w:List Nat}{k:Mk}(h:Cl w/\nR b w k)(ne:w≠[42])(ho:k.sp=true/\k.wk=b/\k.ok):∃ko,DT b w ko:=
 ⟨_,DX (ws:=[w]) (.cons h .nil) (cD _ _) (by show 1<=20;decide) (λz hz=>by rw[bW.mp hz];exact ne) λz hz=>by rw[bW.mp hz];exact ho⟩
theorem tY{b:Bool}{x:Nat×Nat}(h1:iC b<=x.1)(h2:x.1<=x.2)(h3:(x.2:Int)<=iz b):(nX b x).sp=true/\(nX b x).wk=b/\(nX b x).ok:=by
 have t:=(qH h1 h2 h3).2;cases b with
 |false=>exact⟨rfl,rfl,b8 t.2.2⟩
 |true=>
  obtain⟨_,M,_,hM,e⟩:=t;refine⟨rfl,rfl,?_⟩;show 0<=ic (jC x.1 x.2 1)/\ic (jC x.1 x.2 1)<=127;rw[e];exact (HQ hM.1 hM.2).2
theorem Ja{x:Nat×Nat}(h1:x.1<100):rt x≠[42]:=λe=>by
 unfold rt at e;have h:=jX (c:=42) h1 (by decide);split at e
 ·exact h (by rw[e];exact bW.mpr rfl)
 ·have:42∈num x.1++45::num x.2:=by rw[e];exact bW.mpr rfl
  have l:=congrArg List.length e;rw[aZ,bX] at l;have:=pW x.1;cases hn:num x.1 with
  |nil=>exact this hn
  |cons a r=>rw[hn] at l;(simp at l;try omega)
theorem nh{b:Bool}(x:Nat×Nat)(h1:iC b<=x.1)(h2:x.1<=x.2)(h3:(x.2:Int)<=iz b):∃ko,DT b (rt x) ko:=lj (qH h1 h2 h3) (Ja (by cases b<;>(have:(x.2:Int)<=31:=Int.le_trans h3 (by decide))<;>omega)) (tY h1 h2 h3)
noncomputable def nj(n:Nat):List (List Nat):=[[42],num n,[42],[76],[76,45]++(if n=31 then [51,48] else num n),num n++[87],[76,87],[50,57],[42],[51,49],[49,45,55,44]++num n,[42,47,50]]
noncomputable def oZ(d m:Nat):List (List Nat):=[[42],[42],[49,45,53],num d,num d++[35]++num m,num d++[76],num d++[35,53],[53,45,55],[42],[42]]
theorem oJ:num 30=[51,48]/\num 29=[50,57]/\num 31=[51,49]/\num 5=[53]/\num 2=[50]:=by decide +kernel
theorem Fz{n:Nat}(h1:1<=n)(h2:n<=31):∀t∈nj n,∃ko,DT false t ko:=by
 have one:∃ko,DT false (num n) ko:=by
  have:=nh (b:=false) (n,n) (by show (1:Int)<=n;omega) (aX _) (by show (n:Int)<=31;omega)
  rwa [show rt (n,n)=num n from if_pos rfl] at this
 intro t ht;simp only[nj,bA,c9,or_false] at ht;rcases ht with rfl | rfl | rfl | rfl | rfl | rfl | rfl | rfl | rfl | rfl | rfl | rfl
 ·exact⟨_,lQ false⟩
 ·exact one
 ·exact⟨_,lQ false⟩
 ·exact lj ⟨GM.2,GM.1⟩ (by decide) ⟨rfl,rfl,by decide,by decide⟩
 ·split
  ·have z:=Fb 30 (by decide) (by decide);rw[oJ.1] at z;exact lj (k:=.lst 30) ⟨z.2,z.1⟩ (by decide) ⟨rfl,rfl,by decide,by decide⟩
  ·have z:=Fb n ⋯ h1;exact lj (k:=.lst n) ⟨z.2,z.1⟩ (λe=>by cases e) ⟨rfl,rfl,by show (0:Int)<=n;omega,by show (n:Int)<=30;omega⟩
 ·have z:=ME n ⋯ h1;refine lj (k:=.nea n) ⟨z.2,z.1⟩ (λe=>?_) ⟨rfl,rfl,by show (1:Int)<=n;omega,by show (n:Int)<=31;omega⟩;have l:=congrArg List.length e;rw[aZ] at l;have:=pW n;cases hn:num n with
  |nil=>exact this hn
  |cons a r=>rw[hn] at l;(simp at l;try omega)
 ·exact lj ⟨Gz.2,Gz.1⟩ (by decide) ⟨rfl,rfl,trivial⟩
 ·have:=nh (b:=false) (29,29) (by decide) (by decide) (by decide)
  rwa [show rt (29,29)=num 29 from if_pos rfl,oJ.2.1] at this
 ·exact⟨_,lQ false⟩
 ·have:=nh (b:=false) (31,31) (by decide) (by decide) (by decide)
  rwa [show rt (31,31)=num 31 from if_pos rfl,oJ.2.2.1] at this
 ·refine⟨_,DX (ws:=[[49,45,55],num n]) (ks:=[nX false (1,7),nX false (n,n)]) (.cons ?_ (.cons ?_ .nil)) (cD _ _) (by show 2<=20;decide) (λz hz=>?_) λz hz=>?_⟩
  ·have:=qH (b:=false) (x:=(1,7)) (by decide) (by decide) (by decide)
   rwa [show rt (1,7)=[49,45,55] by decide +kernel] at this
  ·have:=qH (b:=false) (x:=(n,n)) (by show (1:Int)<=n;omega) (aX _) (by show (n:Int)<=31;omega)
   rwa [show rt (n,n)=num n from if_pos rfl] at this
  ·rcases bA.mp hz with rfl | hz
   ·decide
   ·rw[bW.mp hz];have:=Ja (x:=(n,n)) (by show n<100;omega)
    rwa [show rt (n,n)=num n from if_pos rfl] at this
  ·rcases bA.mp hz with rfl | hz
   ·exact tY (b:=false) (x:=(1,7)) (by decide) (by decide) (by decide)
   ·rw[bW.mp hz];exact tY (b:=false) (x:=(n,n)) (by show (1:Int)<=n;omega) (aX _) (by show (n:Int)<=31;omega)
 ·exact lj (k:=.num 2863311530) ⟨by decide,rfl,by decide +kernel,by decide⟩ (by decide) ⟨rfl,rfl,by show (0:Int)<=2863311530;decide⟩
theorem Hl{d m:Nat}(h1:d<=7)(h2:1<=m)(h3:m<=5):∃ko,DT true (num d++[35]++num m) ko:=by
 have z:=LQ d ⋯ m ⋯ h2;refine lj (k:=.nth ((d:Int)%7) m) ⟨z.2,z.1⟩ (λe=>?_) ⟨rfl,rfl,⟨⋯,⋯⟩,by show (1:Int)<=m;omega,by show (m:Int)<=5;omega⟩;have l:=congrArg List.length e;rw[aZ,aZ] at l;have:=pW d;cases hn:num d with
 |nil=>exact this hn
 |cons a r=>rw[hn] at l;(simp at l;try omega)
theorem JG{d m:Nat}(h1:d<=7)(h2:1<=m)(h3:m<=5):∀t∈oZ d m,∃ko,DT true t ko:=by
 intro t ht;simp only[oZ,bA,c9,or_false] at ht;rcases ht with rfl | rfl | rfl | rfl | rfl | rfl | rfl | rfl | rfl | rfl
 ·exact⟨_,lQ true⟩
 ·exact⟨_,lQ true⟩
 ·have:=nh (b:=true) (1,5) (by decide) (by decide) (by decide)
  rwa [show rt (1,5)=[49,45,53] by decide +kernel] at this
 ·have:=nh (b:=true) (d,d) (by show (0:Int)<=d;omega) (aX _) (by show (d:Int)<=7;omega)
  rwa [show rt (d,d)=num d from if_pos rfl] at this
 ·exact Hl h1 h2 h3
 ·have z:=RP d ⋯;refine lj (k:=.one ((d:Int)%7)) ⟨z.2,z.1⟩ (λe=>?_) ⟨rfl,rfl,⋯,⋯⟩;have l:=congrArg List.length e;rw[aZ] at l;have:=pW d;cases hn:num d with
  |nil=>exact this hn
  |cons a r=>rw[hn] at l;(simp at l;try omega)
 ·have:=Hl (d:=d) (m:=5) h1 (by decide) (by decide)
  rwa [oJ.2.2.2.1,List.append_assoc] at this
 ·have:=nh (b:=true) (5,7) (by decide) (by decide) (by decide)
  rwa [show rt (5,7)=[53,45,55] by decide +kernel] at this
 ·exact⟨_,lQ true⟩
 ·exact⟨_,lQ true⟩
theorem qo{ts:List (List Nat)}{i:Int}(h0:0<=i)(h1:i<ts.length):∃t∈ts,iF (ts.map λt=>V.str (Tx t)) i=some (.str (Tx t)):=by
 have hk:i.toNat<ts.length:=⋯;have e:i=((i.toNat:Nat):Int):=⋯;refine⟨ts[i.toNat],List.getElem_mem hk,?_⟩;have z:iF (ts.map λt=>V.str (Tx t)) ((i.toNat:Nat):Int)=some (.str (Tx ts[i.toNat])):=mH (by rw[bN,cC hk];rfl)
 rwa [←e] at z
noncomputable def iH:Kc->List Nat
 |.B=>[110,111,110,101]
 |.O=>[114,111,119]
 |.J=>[106,111,105,110]
 |.M=>[109,101,101,116]
 |.L=>[108,101,115,115]
 |.T=>[116,117,114,110]
def ShT(A:Addr->Prop)(c:Bc)(H:Hp):Kc->List V->List V->(List DF->DF)->Prop
 |.B,us,vs,g=>us=[]/\vs=[]/\g=λ_=>zF
 |.O,us,vs,g=>∃r tm f,us=[r,.int tm]/\vs=[]/\RwP A c H r tm f/\g=λ_=>f
 |.J,us,vs,g=>vs=us/\(1<=us.length/\us.length<=8)/\g=lG
 |.M,us,vs,g=>vs=us/\(1<=us.length/\us.length<=8)/\g=k6
 |.L,us,vs,g=>vs=us/\us.length=2/\g=mq
 |.T,us,vs,g=>vs=us/\us.length=1/\g=j8
def Tr(A:Addr->Prop)(c:Bc):Nat->Hp->V->Bt->Prop
 |0,_,_,_=>False
 |n+1,H,v,b=>∃i t l us vs bs g,v=.ref t/\H t=some (.tup [.str (Tx (iH i)),.ref l])/\A l/\H l=some (.lst us)/\ShT A c H i us vs g/\Paired (Tr A c n H) vs bs/\b=gM g bs
section
variable{A A':Addr->Prop}{c:Bc}{H H':Hp}{v:V}{b:Bt}{n:Nat}
theorem ShT.go(m:∀p,A p->A' p)(k:Kp A H H'):∀{i:Kc} {us vs:List V} {g:List DF->DF},ShT A c H i us vs g->ShT A' c H' i us vs g
 |.B,_,_,_,h=>h
 |.O,_,_,_,⟨r,tm,f,e,e2,h,z⟩=>⟨r,tm,f,e,e2,h.go m k,z⟩
 |.J,_,_,_,h=>h
 |.M,_,_,_,h=>h
 |.L,_,_,_,h=>h
 |.T,_,_,_,h=>h
theorem ShT.inn:∀{i:Kc} {us vs:List V} {g:List DF->DF},ShT A c H i us vs g->ShT (λp=>A p/\H p≠none) c H i us vs g
 |.B,_,_,_,h=>h
 |.O,_,_,_,⟨r,tm,f,e,e2,h,z⟩=>⟨r,tm,f,e,e2,h.inn,z⟩
 |.J,_,_,_,h=>h
 |.M,_,_,_,h=>h
 |.L,_,_,_,h=>h
 |.T,_,_,_,h=>h
theorem Tr.go(m:∀p,A p->A' p)(k:Kp A H H'):∀(n:Nat) {v:V} {b:Bt},Tr A c n H v b->Tr A' c n H' v b
 |0,_,_,h=>h
 |n+1,_,_,⟨i,t,l,us,vs,bs,g,e,ht,hA,hl,hs,hp,z⟩=>⟨i,t,l,us,vs,bs,g,e,k _ _ ht (λ_ z=>by cases z) (.inr λ_ z=>by cases z),m _ hA,k _ _ hl (λ_ z=>by cases z) (.inl hA),hs.go m k,Paired.mapP hp λ_ _ z=>Tr.go m k n z,z⟩
theorem Tr.same(s:Same H H')(h:Tr A c n H v b):Tr A c n H' v b:=h.go (λ_ z=>z) (iu s) n
theorem Tr.inn:∀(n:Nat) {v:V} {b:Bt},Tr A c n H v b->Tr (λp=>A p/\H p≠none) c n H v b
 |0,_,_,h=>h
 |n+1,_,_,⟨i,t,l,us,vs,bs,g,e,ht,hA,hl,hs,hp,z⟩=>⟨i,t,l,us,vs,bs,g,e,ht,⟨hA,by rw[hl];exact λz=>nomatch z⟩,hl,hs.inn,Paired.mapP hp λ_ _ z=>Tr.inn n z,z⟩
theorem xN{g:List DF->DF}{bs:List Bt}(h:∀b∈bs,1<=b.1/\1<=b.2.1):(1<=(gM g bs).1/\1<=(gM g bs).2.1)/\∀b∈bs,b.1<(gM g bs).1/\b.2.1<(gM g bs).2.1:=by
 have key:∀l:List Int,(∀i∈l,1<=i)->0<=l.sum/\∀i∈l,i<=l.sum:=λl=>by
  induction l with
  |nil=>exact λ_=>⟨bB 0,λ_ h=>nomatch h⟩
  |cons a l ih=>
   intro h;obtain⟨h1,h2⟩:=ih λi hi=>h i (bP _ hi);have:=h a (bS ..);rw[List.sum_cons];refine⟨⋯,λi hi=>?_⟩;rcases bA.mp hi with rfl | hi
   ·omega
   ·have:=h2 i hi;omega
 obtain⟨k1,k2⟩:=key (bs.map (·.1)) λi hi=>by
  obtain⟨b,hb,rfl⟩:=bI.mp hi;exact (h b hb).1
 obtain⟨m1,m2,_⟩:=ol (bs.map (·.2.1)) 0;show (1<=1+(bs.map (·.1)).sum/\1<=1+(bs.map (·.2.1)).foldl max 0)/\∀b∈bs,b.1<1+(bs.map (·.1)).sum/\b.2.1<1+(bs.map (·.2.1)).foldl max 0;refine⟨⟨⋯,⋯⟩,λb hb=>⟨?_,?_⟩⟩
 ·have:=k2 _ (bI.mpr ⟨b,hb,rfl⟩);omega
 ·have:=m2 _ (bI.mpr ⟨b,hb,rfl⟩);omega
theorem Tr.pos:∀(n:Nat) {v:V} {b:Bt},Tr A c n H v b->1<=b.1/\1<=b.2.1
 |0,_,_,h=>h.elim
 |n+1,_,_,⟨i,t,l,us,vs,bs,g,e,ht,hA,hl,hs,hp,z⟩=>by
  rw[z];refine (xN λb hb=>?_).1;obtain⟨u,_,hu⟩:=mC hp b hb;exact Tr.pos n hu
theorem F3{vs:List V}{bs:List Bt}(hp:Paired (Tr A c n H) vs bs):∀b∈bs,1<=b.1/\1<=b.2.1:=λb hb=>by
 obtain⟨u,_,hu⟩:=mC hp b hb;exact Tr.pos n hu
theorem YU:∀{i:Kc} {us vs:List V} {g:List DF->DF},ShT A c H i us vs g->∀{gs:List DF},(∀f∈gs,gG f)->gG (g gs)
 |.B,_,_,_,⟨_,_,e⟩,_,_=>by rw[e];exact rg
 |.O,_,_,_,⟨_,_,_,_,_,⟨x,m0,m1,m3,kd,kw,_,h,e1,e2⟩,e⟩,_,_=>by rw[e,e2,e1];exact h.rr.ok
 |.J,_,_,_,⟨_,_,e⟩,_,h=>by rw[e];exact Kn h
 |.M,_,_,_,⟨_,_,e⟩,_,h=>by rw[e];exact JX h
 |.L,_,_,_,⟨_,_,e⟩,gs,h=>by rw[e];exact I8 h
 |.T,_,_,_,⟨_,_,e⟩,gs,h=>by rw[e];exact Ga h
theorem Tr.ok:∀(n:Nat) {v:V} {b:Bt},Tr A c n H v b->gG b.2.2
 |0,_,_,h=>h.elim
 |n+1,_,_,⟨i,t,l,us,vs,bs,g,e,ht,hA,hl,hs,hp,z⟩=>by
  rw[z];refine YU hs λf hf=>?_;obtain⟨b,hb,rfl⟩:=bI.mp hf;obtain⟨u,_,hu⟩:=mC hp b hb;exact Tr.ok n hu
end
noncomputable def tl:Nat->Int
 |0=>0
 |n+1=>1+3*tl n
theorem Os{B:Int}(hB:0<=B):∀{is:List Int},is.length<=3->(∀i∈is,0<=i/\i<=B)->is.sum<=3*B
 |[],_,_=>by show (0:Int)<=_;omega
 |[a],_,h=>by have:=h a (by simp);show a+0<=_;omega
 |[a,b],_,h=>by have:=h a (by simp);have:=h b (by simp);show a+(b+0)<=_;omega
 |[a,b,c],_,h=>by have:=h a (by simp);have:=h b (by simp);have:=h c (by simp);show a+(b+(c+0))<=_;omega
 |a::b::c::d::r,h,_=>absurd h (by simp)
def ph(n:Nat)(b:Bt):Prop:=1<=b.1/\b.1<=tl n/\1<=b.2.1/\b.2.1<=(n:Int)
theorem JL:∀n:Nat,0<=tl n
 |0=>bB 0
 |n+1=>by have:=JL n;show 0<=1+3*tl n;omega
theorem pD{n:Nat}{g:List DF->DF}{bs:List Bt}(hl:bs.length<=3)(h:∀b∈bs,ph n b):ph (n+1) (gM g bs):=by
 obtain⟨⟨p1,p2⟩,_⟩:=xN (g:=g) λb hb=>⟨(h b hb).1,(h b hb).2.2.1⟩;have s:=Os (JL n) (is:=bs.map (·.1)) (by rw[aY];exact hl) λi hi=>by
  obtain⟨b,hb,rfl⟩:=bI.mp hi;have:=h b hb;exact⟨by have:=this.1;omega,this.2.1⟩
 refine⟨p1,by show 1+(bs.map (·.1)).sum<=1+3*tl n;omega,p2,?_⟩;show 1+(bs.map (·.2.1)).foldl max 0<=((n+1:Nat):Int);obtain⟨_,_,m3⟩:=ol (bs.map (·.2.1)) 0;rcases m3 with m3 | m3
 ·rw[m3];omega
 ·obtain⟨b,hb,e⟩:=bI.mp m3;have z:=(h b hb).2.2.2;have e':b.2.1=(bs.map (·.2.1)).foldl max 0:=e;omega
def p5(K:FG)(c:Bc)(lv:Nat):Sp:=λvs H Q _=>∃(a:Addr) (n:Nat) (bm:Bool) (ns:List Int),vs=[.ref a,.int n,.int lv,.bl bm]/\SqL K H a (ns.map V.int)/\(n+2)*3^lv<=450/\∀(t:Addr) (b:Bt) (H':Hp),Same H H'->Tr (λp=>H p=none) c (lv+1) H' (.ref t) b->ph (lv+1) b->Q (.ref t) H'
theorem LP{i:Int}(h0:0<=i)(h1:i<7):∃kc:Kc,iF [.str (Tx [106,111,105,110]),.str (Tx [109,101,101,116]),.str (Tx [108,101,115,115]),.str (Tx [116,117,114,110]),.str (Tx [106,111,105,110]),.str (Tx [108,101,115,115]),.str (Tx [116,117,114,110])] i=some (V.str (Tx (iH kc)))/\kc≠ .B/\kc≠ .O:=by
 obtain⟨n,rfl⟩:∃n:Nat,i=n:=⟨i.toNat,⋯⟩
 match n,h1 with
 |0,_=>exact⟨.J,rfl,(λz=>by cases z),λz=>by cases z⟩
 |1,_=>exact⟨.M,rfl,(λz=>by cases z),λz=>by cases z⟩
 |2,_=>exact⟨.L,rfl,(λz=>by cases z),λz=>by cases z⟩
 |3,_=>exact⟨.T,rfl,(λz=>by cases z),λz=>by cases z⟩
 |4,_=>exact⟨.J,rfl,(λz=>by cases z),λz=>by cases z⟩
 |5,_=>exact⟨.L,rfl,(λz=>by cases z),λz=>by cases z⟩
 |6,_=>exact⟨.T,rfl,(λz=>by cases z),λz=>by cases z⟩
 |n+7,h=>exact absurd h (by have:((n+7:Nat):Int)=(n:Int)+7:=rfl;omega)
noncomputable def gK:Kc->List DF->DF
 |.J=>lG
 |.M=>k6
 |.L=>mq
 |.T=>j8
 |_=>λ_=>zF
noncomputable def vG(z:Int):List (fA×V):=[(.inr (Tx [106,111,105,110]),.int z),(.inr (Tx [109,101,101,116]),.int z),(.inr (Tx [108,101,115,115]),.int 2),(.inr (Tx [116,117,114,110]),.int 1)]
theorem WJ{z:Int}{kc:Kc}(hz:1<=z/\z<=3)(h:kc≠ .B/\kc≠ .O):∃M:Nat,some (V.int M)=ir (m5 [] (vG z)) (.inr (Tx (iH kc)))/\M<=3/\∀{A:Addr->Prop} {c:Bc} {H:Hp} {us:List V},us.length=M->ShT A c H kc us us (gK kc):=by
 obtain⟨n,rfl⟩:∃n:Nat,z=n:=⟨z.toNat,⋯⟩;cases kc with
 |B=>exact absurd rfl h.1
 |O=>exact absurd rfl h.2
 |J=>exact⟨n,rfl,⋯,λe=>⟨rfl,⋯,rfl⟩⟩
 |M=>exact⟨n,rfl,⋯,λe=>⟨rfl,⋯,rfl⟩⟩
 |L=>exact⟨2,rfl,by decide,λe=>⟨rfl,e,rfl⟩⟩
 |T=>exact⟨1,rfl,by decide,λe=>⟨rfl,e,rfl⟩⟩
theorem pL{A:Addr->Prop}{c:Bc}{H:Hp}:∀{i:Kc} {us vs:List V} {g:List DF->DF},ShT A c H i us vs g->i≠ .B->i≠ .O->vs=us/\1<=us.length/\us.length<=8/\iH i≠[110,111,110,101]/\iH i≠[114,111,119]/\(i=.J/\g=lG∨i=.M/\g=k6∨(i=.L/\g=mq/\us.length=2)∨(i=.T/\g=j8/\us.length=1))
 |.B,_,_,_,_,h1,_=>absurd rfl h1
 |.O,_,_,_,_,_,h2=>absurd rfl h2
 |.J,_,_,_,⟨e,h,z⟩,_,_=>⟨e,h.1,h.2,by decide,by decide,.inl ⟨rfl,z⟩⟩
 |.M,_,_,_,⟨e,h,z⟩,_,_=>⟨e,h.1,h.2,by decide,by decide,.inr (.inl ⟨rfl,z⟩)⟩
 |.L,_,_,_,⟨e,h,z⟩,_,_=>⟨e,⋯,⋯,by decide,by decide,.inr (.inr (.inl ⟨rfl,z,h⟩))⟩
 |.T,_,_,_,⟨e,h,z⟩,_,_=>⟨e,⋯,⋯,by decide,by decide,.inr (.inr (.inr ⟨rfl,z,h⟩))⟩
theorem CO{l:List V}(h:l.length=1):∃a,l=[a]:=by
 cases l with
 |nil=>cases h
 |cons a r=>cases r with
  |nil=>exact⟨a,rfl⟩
  |cons b r=>cases h
theorem Jb{l:List V}(h:l.length=2):∃a b,l=[a,b]:=by
 cases l with
 |nil=>cases h
 |cons a r=>
  obtain⟨b,rfl⟩:=CO (Nat.succ.inj h);exact⟨a,b,rfl⟩
def pQ(c:Bc)(n:Nat):Sp:=λvs H Q _=>∃(A:Addr->Prop) (v:V) (b:Bt),vs=[v]/\Tr A c n H v b/\n<=3/\∀(D:Addr) (ls:List V) (H':Hp),Same H H'->H' D=some (.lst ls)->(∀r∈ls,∃tm f,RwP A c H' r tm f)->ls.length<=8^n->Q (.ref D) H'
theorem Kk{i:Kc}(h:iH i=[114,111,119]):i=.O:=by cases i<;>first | rfl | exact absurd h (by decide)
theorem Za{l:List V}{v:V}:iF (v::l) 0=some v:=mH (j:=0) rfl
theorem yi{n:Nat}(h:n<=3):8^n<=512:=bR (Nat.pow_le_pow_right (by decide) h) (by decide)
theorem Zi{K:FG}{H H':Hp}{a:Addr}{xs:List V}(e:SameN H H')(h:SqL K H a xs):SqL K H' a xs:=by
 rcases h with (h | ⟨o,h⟩) | h
 ·exact .inl (.inl (e _ _ (λ_ z=>by cases z) h))
 ·exact .inl (.inr ⟨o,e _ _ (λ_ z=>by cases z) h⟩)
 ·exact .inr h
theorem ql{H:Hp}{l b:Addr}{us us':List V}{o:HO}(hl:H l=some (.lst us))(hb:H b=some o)(n:o≠ .lst us):upd H l (.lst us') b=some o:=by
 rw[eQ (λz=>by rw[z,hl] at hb;exact n (bF hb).symm)];exact hb
theorem aFL{H:Hp}{Pt l:Addr}{lp:Pos}{q:Str}{us us':List V}(hl:H l=some (.lst us))(h:mO H Pt lp q):mO (upd H l (.lst us')) Pt lp q:=by
 rcases h with h | ⟨c0,h,hc⟩
 ·exact .inl (ql hl h (λz=>by cases z))
 ·exact .inr ⟨c0,ql hl h (λz=>by cases z),ql hl hc (λz=>by cases z)⟩
theorem Hw:∀n:Nat,ie (-(n:Int))<=ie 0-n
 |0=>by rw[show -((0:Nat):Int)=0 from rfl];omega
 |n+1=>by
  have h:=Hw n;have u:=lY (-((n+1:Nat):Int));have l:=(oE (-((n+1:Nat):Int))).1;rw[show -((n+1:Nat):Int)+1= -(n:Int) by omega] at u;omega
theorem aFD(d:Int):∃M,ie M<=d/\d<ie (M+1):=by
 have key:∀(k:Nat) (N:Int),ie N<=d->d-ie N<k->∃M,ie M<=d/\d<ie (M+1):=λk=>by
  induction k with
  |zero=>intro N h1 h2;omega
  |succ k ih=>
   intro N h1 h2;by_cases c:d<ie (N+1)
   ·exact⟨N,h1,c⟩
   ·have u:=lY N;have l:=(oE N).1;exact ih (N+1) ⋯ ⋯
 have h:=Hw (ie 0-d).toNat;exact key ((d-ie (-((ie 0-d).toNat:Int))).toNat+1) (-((ie 0-d).toNat:Int)) ⋯ ⋯
theorem tT(d:Int):∃y m k:Int,jn y m k/\io y m k=d:=by
 obtain⟨M,h1,h2⟩:=aFD d;have u:=lY M;rw[u] at h2;have e:ie M=db (M / 12)+ahead (M / 12) (M%12+1):=rfl;have el:lU M=fC (M / 12) (M%12+1):=rfl;exact⟨M / 12,M%12+1,d-ie M+1,⟨⟨⋯,⋯⟩,⋯,by rw[←el];omega⟩,by unfold io;rw[←e];omega⟩
def nv(c:Bc)(n:Nat):Sp:=λvs H Q _=>∃(A:Addr->Prop) (v:V) (b:Bt) (mo y m k:Int),vs=[v,.int mo]/\Tr A c n H v b/\jn y m k/\io y m k=mo / 1440/\∀H',Same H H'->Q (.bl (gS b.2.2 mo y m k)) H'
theorem I0{α:Type}{l:List α}{p q:α->Bool}(h:∀z,p z=q z):l.any p=l.any q:=by rw[show p=q from funext h]
theorem Eh{c:Bool}(l:List Bool):j7 (.bl c) (l.map V.bl)=l.any λz=>z==c:=by
 unfold j7;rw[cN];exact I0 λz=>by cases z<;>cases c<;>rfl
theorem MY(l:List Bool):j7 (.bl true) (l.map V.bl)=l.any id:=(Eh l).trans (I0 λz=>by cases z<;>rfl)
theorem NR(l:List Bool):(!j7 (.bl false) (l.map V.bl))=l.all id:=by
 rw[Eh,List.not_any_eq_all_not,show (λa:Bool=> !a==false)=id from funext λz=>by cases z<;>rfl]
theorem Jz(l:List Bool):(l.map V.bl).all kI=true:=cA.mpr λx hx=>by obtain⟨b,_,rfl⟩:=bI.mp hx;rfl
noncomputable def kO(i j:Kc):Bool:=match j with
 |.B=>true
 |.O=>match i with | .O=>true | _=>false
 |.J=>match i with | .J=>true | _=>false
 |.M=>match i with | .M=>true | _=>false
 |.L=>match i with | .L=>true | _=>false
 |.T=>match i with | .T=>true | _=>false
noncomputable def qL(i:Kc):List Bool:=[kO i .O,kO i .J,kO i .M,kO i .L,kO i .T]
def KtB(K:FG)(c:Bc):Prop:=∀i,IsC K (c.k i)/\Cls K (c.k i)/\∀j,PySem.W.kitOne K (.ref (c.k i)) (.ref (c.k j))=some (kO i j)
def NdOk(A:Addr->Prop)(c:Bc)(H:Hp)(t x D:Addr):Prop:=∃(n:Nat) (i:Kc) (l dx:Addr) (us vs ws:List V) (fs:Fl) (bs:List Bt) (g:List DF->DF),n<=3/\H t=some (.tup [.str (Tx (iH i)),.ref l])/\A l/\H l=some (.lst us)/\ShT A c H i us vs g/\Paired (Tr A c n H) vs bs/\H x=some (.ins (c.k i) dx fs)/\Sh A c H i fs ws g/\Paired (Bk A c n H) ws bs/\ws.length<=8/\A D/\H D=some (.lst ws)/\(i=.O->∃r tm,fs=([("row",r)]:Fl)/\us=[r,.int tm])
def MdOk(A:Addr->Prop)(c:Bc)(H:Hp)(e:V):Prop:=∃q t x D,e=.ref q/\H q=some (.tup [.ref t,.ref x,.ref D])/\NdOk A c H t x D
theorem MdOk.go{A A':Addr->Prop}{c:Bc}{H H':Hp}{e:V}(m:∀p,A p->A' p)(k:Kp A H H')(h:MdOk A c H e):MdOk A' c H' e:=by
 obtain⟨q,t,x,D,e,hq,n,i,l,dx,us,vs,ws,fs,bs,g,hn,h1,h2,h3,h4,h5,h6,h7,h8,h9,hA,h10,h11⟩:=h;have kt:∀{b:Addr} {o:HO},H b=some o->(∀ps,o≠ .tbl ps)->(∀xs,o≠ .lst xs)->H' b=some o:=λhb n1 n2=>k _ _ hb n1 (.inr n2);exact⟨q,t,x,D,e,kt hq (λ_ z=>by cases z) (λ_ z=>by cases z),n,i,l,dx,us,vs,ws,fs,bs,g,hn,kt h1 (λ_ z=>by cases z) (λ_ z=>by cases z),m _ h2,k _ _ h3 (λ_ z=>by cases z) (.inl h2),h4.go m k,Paired.mapP h5 λ_ _ z=>z.go m k _,kt h6 (λ_ z=>by cases z) (λ_ z=>by cases z),h7.go m k,Paired.mapP h8 λ_ _ z=>z.go m k _,h9,m _ hA,k _ _ h10 (λ_ z=>by cases z) (.inl hA),h11⟩
def But(M:Addr)(H H':Hp):Prop:=∀b o,b≠M->H b=some o->H' b=some o
theorem But.kp{M:Addr}{A:Addr->Prop}{H H':Hp}{ms:List V}(h:But M H H')(hM:H M=some (.lst ms))(na:∀p,A p->p≠M):Kp A H H':=λb o hb _ z=>h b o (λe=>by
 subst e;rcases z with z | z
 ·exact na _ z rfl
 ·rw[hM] at hb;exact z _ (bF hb).symm) hb
def oK(c:Bc)(n:Nat):Sp:=λvs H Q _=>∃(A:Addr->Prop) (v:V) (M:Addr) (ms:List V) (b:Bt),vs=[v,.ref M]/\Tr A c n H v b/\n<=3/\(b.1<=24/\b.2.1<=5)/\H M=some (.lst ms)/\(∀p,A p->p≠M)/\(ms.length:Int)+b.1<=1000/\∀(u:V) (ms':List V) (H':Hp),But M H H'->H' M=some (.lst (ms++ms'))->Bk (λp=>A p∨H p=none) c n H' u b->(∀e∈ms',MdOk (λp=>A p∨H p=none) c H' e)->(ms'.length:Int)=b.1->Q u H'
theorem But.trans{M:Addr}{H H1 H2:Hp}(a:But M H H1)(b:But M H1 H2):But M H H2:=λx o n h=>b x o n (a x o n h)
theorem But.of{M:Addr}{H H1:Hp}(s:Same H H1):But M H H1:=λx o _ h=>s x o h
theorem But.none{M b:Addr}{H H1:Hp}(a:But M H H1)(hM:H1 M≠ .none)(hb:H1 b=.none):H b=.none:=by
 cases e:H b with
 |none=>rfl
 |some o=>
  by_cases c:b=M
  ·subst c;exact absurd hb hM
  ·rw[a b o c e] at hb;cases hb
section
variable{js:List Nat}{σ:L2.St}{tt:TT}{te:TE}{Q:VK}{H1:Hp}
theorem avK{K:FG}{a M:Addr}{xs:List V}(R:Addr->Nat->List V->Hp->Prop)(hM:H1 M≠none)(hm:∀D i l H l0 l',H D=some (.lst l0)->H1 D=none->R D i l H->R D i l (upd H D (.lst l')))(hn:xs.length<=sizeLine)(h0:∀D,H1 D=none->R D 0 [] (upd H1 D (.lst [])))(hq:∀H2,But M H1 H2->SqL K H2 a xs)
  (hs:∀(i:Nat) (v:V) (l:List V) (D:Addr) (H2:Hp) (E:V->Hp->Prop) (F:Hp->Prop),xs[i]? =some v->R D i l H2->H1 D=none->But M H1 H2->H2 D=some (.lst l)->(∀y H5,But M H2 H5->R D (i+1) (l++[y]) H5->E y H5)->(∀H4,But M H2 H4->R D (i+1) l H4->F H4)->
   tt (some v::gZ js σ) H2 λb H4=>if b=true then te (some v::gZ js σ) H4 E else F H4)
  (hd:∀(D:Addr) (H2:Hp) (l:List V),R D xs.length l H2->H1 D=none->But M H1 H2->H2 D=some (.lst l)->Q (.ref D) H2):kN (mD K a) js σ tt te Q H1:=by
 intro D hD;have nD:D≠M:=λe=>hM (by rw[←e];exact hD);refine⟨λi m H2=>m=xs.length-i/\i<=xs.length/\But M H1 H2/\∃l,H2 D=some (.lst l)/\l.length<=i/\R D i l H2,⟨xs.length,by simp,bK _,.of (eE hD _),[],dY,aX _,h0 D hD⟩,?_⟩;rintro i m H2 ⟨rfl,hi,s2,l,h2,hll,hR⟩;by_cases hlt:i<xs.length
 ·refine .inr ⟨⟨xs,xs[i],hq _ s2,by simp[hlt]⟩,λv H3 y=>?_⟩;obtain⟨e,ev⟩:=y;subst e;refine hs i v l D _ _ _ (ev xs (hq _ s2)) hR hD s2 h2 (λz H5 s5 r5=>?_) (λH4 s4 r4=>?_)
  ·refine⟨l,s5 _ _ nD h2,cH hll (bC hlt hn),xs.length-(i+1),⋯,rfl,hlt,λb o nb hb=>?_,l++[z],dY,by rw[aZ,b7];omega,hm _ _ _ _ _ _ (s5 _ _ nD h2) hD r5⟩;rw[eQ (gR hb hD)];exact s5 _ _ nb (s2 _ _ nb hb)
  ·exact⟨xs.length-(i+1),⋯,rfl,hlt,s2.trans s4,l,s4 _ _ nD h2,⋯,r4⟩
 ·have e:i=xs.length:=⋯;subst e;exact .inl ⟨⟨xs,hq _ s2,aX _⟩,hd D H2 l hR hD s2 h2⟩
end
theorem WD{bs:List Bt}(h:∀b∈bs,1<=b.1/\1<=b.2.1)(j:Nat):((bs.take j).map (·.1)).sum<=(bs.map (·.1)).sum:=by
 have e:bs=bs.take j++bs.drop j:=(List.take_append_drop j bs).symm;have nn:∀l:List Bt,(∀b∈l,1<=b.1)->0<=(l.map (·.1)).sum:=λl=>by
  induction l with
  |nil=>exact λ_=>bB 0
  |cons a l ih=>
   intro h;have:=ih λb hb=>h b (bP _ hb);have:=h a (bS ..);rw[bM,List.sum_cons];omega
 have:=nn (bs.drop j) λb hb=>(h b (List.mem_of_mem_drop hb)).1;have e2:(bs.map (·.1)).sum=((bs.take j).map (·.1)).sum+((bs.drop j).map (·.1)).sum:=by rw[←c8,←a8,List.take_append_drop]
 omega
theorem SD{A:Addr->Prop}{c:Bc}{H:Hp}{q t x D:Addr}(hq:H q=none)(h:NdOk A c H t x D):MdOk A c (upd H q (.tup [.ref t,.ref x,.ref D])) (.ref q):=by
 have s:=eE hq (.tup [.ref t,.ref x,.ref D]);obtain⟨n,i,l,dx,us,vs,ws,fs,bs,g,hn,h1,h2,h3,h4,h5,h6,h7,h8,h9,hA,h10,h11⟩:=h;exact⟨q,t,x,D,rfl,dY,n,i,l,dx,us,vs,ws,fs,bs,g,hn,s _ _ h1,h2,s _ _ h3,h4.go (λ_ z=>z) (iu s),Paired.mapP h5 λ_ _ z=>z.same s,s _ _ h6,h7.go (λ_ z=>z) (iu s),Paired.mapP h8 λ_ _ z=>z.same s,h9,hA,s _ _ h10,h11⟩
def IY(H:Hp)(v:V)(b:Bt):Prop:=∃t:Addr,v=.ref t/\H t=some (.tup [.int b.1,.int b.2.1])
def ot(c:Bc)(n:Nat):Sp:=λvs H Q _=>∃(A:Addr->Prop) (v:V) (b:Bt),vs=[v]/\Tr A c n H v b/\∀(t:Addr) (H':Hp),Same H H'->H' t=some (.tup [.int b.1,.int b.2.1])->Q (.ref t) H'
noncomputable def vq:Kc->Bool
 |.B=>true
 |.O=>true
 |_=>false
theorem HM{i:Kc}:j7 (.str (Tx (iH i))) [.str (Tx [110,111,110,101]),.str (Tx [114,111,119])]=vq i:=by cases i<;>decide +kernel
theorem Gr{A:Addr->Prop}{c:Bc}{n:Nat}{H:Hp}:∀{ws:List V} {bs:List Bt},Paired (Bk A c n H) ws bs->∃ps:List Addr,ws=ps.map V.ref
 |_,_,.nil=>⟨[],rfl⟩
 |_,_,.cons h t=>by
  obtain⟨ps,e⟩:=Gr t;cases n with
  |zero=>exact h.elim
  |succ n=>
   obtain⟨i,x,e1,_⟩:=h;exact⟨x::ps,by rw[e1,e];rfl⟩
theorem NdOk.go{A A':Addr->Prop}{c:Bc}{H H':Hp}{t x D:Addr}(m:∀p,A p->A' p)(k:Kp A H H')(h:NdOk A c H t x D):NdOk A' c H' t x D:=by
 obtain⟨n,i,l,dx,us,vs,ws,fs,bs,g,hn,h1,h2,h3,h4,h5,h6,h7,h8,h9,hA,h10,h11⟩:=h;have kt:∀{b:Addr} {o:HO},H b=some o->(∀ps,o≠ .tbl ps)->(∀xs,o≠ .lst xs)->H' b=some o:=λhb n1 n2=>k _ _ hb n1 (.inr n2);exact⟨n,i,l,dx,us,vs,ws,fs,bs,g,hn,kt h1 (λ_ z=>by cases z) (λ_ z=>by cases z),m _ h2,k _ _ h3 (λ_ z=>by cases z) (.inl h2),h4.go m k,Paired.mapP h5 λ_ _ z=>z.go m k _,kt h6 (λ_ z=>by cases z) (λ_ z=>by cases z),h7.go m k,Paired.mapP h8 λ_ _ z=>z.go m k _,h9,m _ hA,k _ _ h10 (λ_ z=>by cases z) (.inl hA),h11⟩
theorem NdOk.same{A:Addr->Prop}{c:Bc}{H H':Hp}{t x D:Addr}(s:Same H H')(h:NdOk A c H t x D):NdOk A c H' t x D:=h.go (λ_ z=>z) (iu s)
theorem Tr.up{A:Addr->Prop}{c:Bc}{H:Hp}:∀(n:Nat) {v:V} {b:Bt},Tr A c n H v b->Tr A c (n+1) H v b
 |0,_,_,h=>h.elim
 |n+1,_,_,⟨i,t,l,us,vs,bs,g,e,ht,hA,hl,hs,hp,z⟩=>⟨i,t,l,us,vs,bs,g,e,ht,hA,hl,hs,Paired.mapP hp λ_ _ z=>Tr.up n z,z⟩
theorem Tr.upn{A:Addr->Prop}{c:Bc}{H:Hp}{n:Nat}{v:V}{b:Bt}(h:Tr A c n H v b):∀{m:Nat},n<=m->Tr A c m H v b
 |m,hm=>by
  obtain⟨d,rfl⟩:∃d,m=n+d:=⟨m-n,⋯⟩;clear hm;induction d with
  |zero=>exact h
  |succ d ih=>exact ih.up _
noncomputable def WS5:List (List Nat):=[[114,111,119],[106,111,105,110],[109,101,101,116],[108,101,115,115],[116,117,114,110]]
theorem si(i:Kc):(WS5.map λw=>decide (V.str (Tx (iH i))=V.str (Tx w)))=qL i:=by cases i<;>decide +kernel
section
variable{js:List Nat}{σ:L2.St}{tt:TT}{te:TE}{Q:VK}{H1:Hp}
theorem NJ{lo:Int}{n:Nat}(R:Addr->Nat->List V->Hp->Prop)(hm:∀D i l H l0 l',H D=some (.lst l0)->H1 D=none->R D i l H->R D i l (upd H D (.lst l')))(hn:n<=sizeLine)(h0:∀D,H1 D=none->R D 0 [] (upd H1 D (.lst [])))
  (hs:∀(i:Nat) (l:List V) (D:Addr) (H2:Hp) (E:V->Hp->Prop) (F:Hp->Prop),i<n->R D i l H2->H1 D=none->SameN H1 H2->H2 D=some (.lst l)->(∀y H5,SameN H2 H5->R D (i+1) (l++[y]) H5->E y H5)->(∀H4,SameN H2 H4->R D (i+1) l H4->F H4)->
   tt (some (.int (lo+(i:Int)))::gZ js σ) H2 λb H4=>if b=true then te (some (.int (lo+(i:Int)))::gZ js σ) H4 E else F H4)
  (hd:∀(D:Addr) (H2:Hp) (l:List V),R D n l H2->H1 D=none->SameN H1 H2->H2 D=some (.lst l)->Q (.ref D) H2):kN (kZ lo n) js σ tt te Q H1:=by
 intro D hD;have nl:∀(l:List V),∀ps,HO.lst l≠ .tbl ps:=λ_ _ z=>by cases z
 refine⟨λi m H2=>m=n-i/\i<=n/\SameN H1 H2/\∃l,H2 D=some (.lst l)/\l.length<=i/\R D i l H2,⟨n,by simp,bK _,jQ (eE hD _),[],dY,aX _,h0 D hD⟩,?_⟩;rintro i m H2 ⟨rfl,hi,s2,l,h2,hll,hR⟩;by_cases hlt:i<n
 ·refine .inr ⟨hlt,λv H3 y=>?_⟩;obtain⟨e,ev⟩:=y;subst e;subst ev;refine hs i l D _ _ _ hlt hR hD s2 h2 (λz H5 s5 r5=>?_) (λH4 s4 r4=>?_)
  ·refine⟨l,s5 _ _ (nl l) h2,cH hll (bC hlt hn),n-(i+1),⋯,rfl,hlt,λb o nb hb=>?_,l++[z],dY,by rw[aZ,b7];omega,hm _ _ _ _ _ _ (s5 _ _ (nl l) h2) hD r5⟩;rw[eQ (gR hb hD)];exact s5 _ _ nb (s2 _ _ nb hb)
  ·exact⟨n-(i+1),⋯,rfl,hlt,s2.trans s4,l,s4 _ _ (nl l) h2,⋯,r4⟩
 ·have e:i=n:=⋯;subst e;exact .inl ⟨aX _,hd D H2 l hR hD s2 h2⟩
end
noncomputable def zw:Kc->Bool
 |.J=>true
 |.M=>true
 |_=>false
theorem Oi{i:Kc}:j7 (.str (Tx (iH i))) [.str (Tx [106,111,105,110]),.str (Tx [109,101,101,116])]=zw i:=by cases i<;>decide +kernel
theorem NB{H:Hp}{tN bm l:Addr}{us us':List V}(hl:H l=some (.lst us))(h:kH H tN bm):kH (upd H l (.lst us')) tN bm:=by
 obtain⟨ob,u,e,r⟩:=h.2;exact⟨aFL hl h.1,ob,u,ql hl e (λz=>by cases z),r⟩
inductive NO (K:FG) (vs:List V) (H:Hp) (Q:VK) (E:XK):Prop
 |mk (y:Int) (_:vs=[.int y]) (_:Q (.bl (iZ y)) H)
inductive Zf (K:FG) (vs:List V) (H:Hp) (Q:VK) (E:XK):Prop
 |mk (y z:Int) (_:vs=[.int y,.int z]) (_:(0<z/\z<1073741824)) (_:Q (.int (mb y z)) H)
inductive K2 (K:FG) (vs:List V) (H:Hp) (Q:VK) (E:XK):Prop
 |mk (y:Int) (_:vs=[.int y]) (_:Q (.int (db y)) H)
inductive QV (K:FG) (vs:List V) (H:Hp) (Q:VK) (E:XK):Prop
 |mk (y m:Int) (_:vs=[.int y,.int m]) (_:(1<=m/\m<=12)) (_:Q (.int (fC y m)) H)
inductive Xi (K:FG) (vs:List V) (H:Hp) (Q:VK) (E:XK):Prop
 |mk (i:Int) (_:vs=[.int i]) (_:Q (.bl true) H)
inductive Pa (K:FG) (vs:List V) (H:Hp) (Q:VK) (E:XK):Prop
 |mk (y m k:Int) (_:vs=[.int y,.int m,.int k]) (_:((1<=m/\m<=12)/\1<=k/\k<=fC y m)) (_:Q (.bl true) H)
inductive Oh (K:FG) (vs:List V) (H:Hp) (Q:VK) (E:XK):Prop
 |mk (y m k:Int) (_:vs=[.int y,.int m,.int k]) (_:((1<=m/\m<=12)/\1<=k/\k<=fC y m)) (_:∀H',Same H H'->Q (.int (db y+ahead y m+k-1)) H')
inductive Lx (K:FG) (vs:List V) (H:Hp) (Q:VK) (E:XK):Prop
 |mk (d:Int) (_:vs=[.int d]) (_:∀y:Int,db y<=d->d<db (y+1)->Q (.int y) H)
inductive av4 (K:FG) (vs:List V) (H:Hp) (Q:VK) (E:XK):Prop
 |mk (d:Int) (_:vs=[.int d]) (_:∀(y m k:Int) (p:Addr) (H':Hp),jn y m k->io y m k=d->Same H H'->H' p=some (.tup [.int y,.int m,.int k])->Q (.ref p) H')
inductive Rq (K:FG) (vs:List V) (H:Hp) (Q:VK) (E:XK):Prop
 |mk (d:Int) (_:vs=[.int d]) (_:Q (.int ((d+6)%7)) H)
inductive NZ (K:FG) (vs:List V) (H:Hp) (Q:VK) (E:XK):Prop
 |mk (y m d:Int) (_:vs=[.int y,.int m,.int d]) (_:Q (.int (7*jR y m+(d+6)%7)) H)
inductive aw9 (K:FG) (vs:List V) (H:Hp) (Q:VK) (E:XK):Prop
 |mk (y m:Int) (_:vs=[.int y,.int m]) (_:(1<=m/\m<=12)) (_:∀H':Hp,Same H H'->Q (.int (kindOf y m)) H')
inductive X6 (K:FG) (vs:List V) (H:Hp) (Q:VK) (E:XK):Prop
 |mk (mo:Int) (_:vs=[.int mo]) (_:∀(p:Addr) (H':Hp),Same H H'->H' p=some (.tup [.int (mo / 1440),.int (mo%1440 / 60),.int (mo%1440%60)])->Q (.ref p) H')
inductive aoE (K:FG) (vs:List V) (H:Hp) (Q:VK) (E:XK):Prop
 |mk (l:List Nat) (_:vs=[.str (Tx l)]) (_:l.length<=2000) (_:∀H',Same H H'->Q (.bl (lR l)) H')
inductive XS (K:FG) (vs:List V) (H:Hp) (Q:VK) (E:XK):Prop
 |mk (l:List Nat) (_:vs=[.str (Tx l)]) (_:l.length<=2000) (_:∀H',Same H H'->Q (.bl (iR l)) H')
inductive aH8 (K:FG) (vs:List V) (H:Hp) (Q:VK) (E:XK):Prop
 |mk (m n:Int) (_:vs=[.int m,.int n]) (_:(0<=m/\0<=n)) (_:Q (.bl (tb m n.toNat)) H)
inductive QX (K:FG) (vs:List V) (H:Hp) (Q:VK) (E:XK):Prop
 |mk (a:Addr) (zs:List Int) (_:vs=[.ref a]) (_:SqL K H a (zs.map V.int)) (_:(∀z∈zs,0<=z/\z<=100000)) (_:Q (.int (iK zs)) H)
inductive aoK (K:FG) (vs:List V) (H:Hp) (Q:VK) (E:XK):Prop
 |mk (m:Int) (_:vs=[.int m]) (_:(0<=m/\Builtin.Int.intBits m<=100000)) (_:∀(p:Addr) (H':Hp),Same H H'->H' p=some (.lst ((l9 m).map V.int))->Q (.ref p) H')
inductive au4 (K:FG) (vs:List V) (H:Hp) (Q:VK) (E:XK):Prop
 |mk (a b s:Int) (_:vs=[.int a,.int b,.int s]) (_:(0<=a/\a<=1000)) (_:(-1<=b/\b<=1000)) (_:(0<s/\s<=1000)) (_:∀H',Same H H'->Q (.int (jC a b s)) H')
inductive amT (K:FG) (vs:List V) (H:Hp) (Q:VK) (E:XK):Prop
 |mk (l:List Nat) (lo hi:Int) (_:vs=[.str (Tx l),.int lo,.int hi]) (_:l.length<=600) (_:∀H',Same H H'->Q (oV (gJ lo hi l)) H')
inductive La (K:FG) (vs:List V) (H:Hp) (Q:VK) (E:XK):Prop
 |mk (l:List Nat) (lo hi:Int) (_:vs=[.str (Tx l),.int lo,.int hi]) (_:l.length<=500) (_:∀(r:V) (H':Hp),Same H H'->CK H' r (iP lo hi l)->Q r H')
inductive Yy (K:FG) (vs:List V) (H:Hp) (Q:VK) (E:XK):Prop
 |mk (r s:List Nat) (lo hi:Int) (_:vs=[.str (Tx r),.str (Tx s),.int lo,.int hi]) (_:r.length<=400) (_:s.length<=400) (_:(0<=lo/\lo<=hi/\hi<=1000)) (_:∀H',Same H H'->Q (oV (j3 lo hi r s)) H')
inductive MM (K:FG) (vs:List V) (H:Hp) (Q:VK) (E:XK):Prop
 |mk (l:List Nat) (lo hi:Int) (_:vs=[.str (Tx l),.int lo,.int hi]) (_:l.length<=300) (_:(0<=lo/\lo<=hi/\hi<=1000)) (_:∀H',Same H H'->Q (oV (gH lo hi l)) H')
inductive ZG (K:FG) (vs:List V) (H:Hp) (Q:VK) (E:XK):Prop
 |mk (l:List Nat) (lo hi:Int) (_:vs=[.str (Tx l),.int lo,.int hi]) (_:l.length<=300) (_:(0<=lo/\lo<=hi/\hi<=1000)) (_:Hz lo hi l) (_:∀H',Same H H'->Q (.int (gL (lb lo hi l))) H')
inductive YE (K:FG) (vs:List V) (H:Hp) (Q:VK) (E:XK):Prop
 |mk (d f:Int) (_:vs=[.int d,.int f]) (_:Q (.int ((f+d-1)%7)) H)
inductive RU (K:FG) (vs:List V) (H:Hp) (Q:VK) (E:XK):Prop
 |mk (l:Int) (_:vs=[.int l]) (_:(28<=l/\l<=31)) (_:Q (.int (2*2^l.toNat-2)) H)
inductive alN (K:FG) (vs:List V) (H:Hp) (Q:VK) (E:XK):Prop
 |mk (d l f:Int) (_:vs=[.int d,.int l,.int f]) (_:Q (.int (nw d l f)) H)
inductive arP (K:FG) (vs:List V) (H:Hp) (Q:VK) (E:XK):Prop
 |mk (w f:Int) (_:vs=[.int w,.int f]) (_:Q (.int (1+(w-f)%7)) H)
inductive Ye (K:FG) (C:Addr) (vs:List V) (H:Hp) (Q:VK) (E:XK):Prop
 |mk (p:Addr) (l f:Int) (_:vs=[.ref p,.int l,.int f]) (_:Q (.int 0) H)
inductive Ow (K:FG) (C:Addr) (vs:List V) (H:Hp) (Q:VK) (E:XK):Prop
 |mk (p dx:Addr) (m:Int) (_:vs=[.ref p,.int m]) (_:H p=some (.ins C dx [])) (_:Q .non (upd H p (.ins C dx [("mask",.int m)])))
inductive Rn (K:FG) (C:Addr) (vs:List V) (H:Hp) (Q:VK) (E:XK):Prop
 |mk (p dx:Addr) (m l f:Int) (_:vs=[.ref p,.int l,.int f]) (_:H p=some (.ins C dx [("mask",.int m)])) (_:Lf l f) (_:Q (.int (pC m l)) H)
inductive ajO (K:FG) (C:Addr) (vs:List V) (H:Hp) (Q:VK) (E:XK):Prop
 |mk (p dx:Addr) (m:Int) (_:vs=[.ref p,.int m]) (_:H p=some (.ins C dx [])) (_:Q .non (upd H p (.ins C dx [("back",.int m)])))
inductive arY (K:FG) (C:Addr) (vs:List V) (H:Hp) (Q:VK) (E:XK):Prop
 |mk (p dx:Addr) (b l f:Int) (_:vs=[.ref p,.int l,.int f]) (_:H p=some (.ins C dx [("back",.int b)])) (_:(0<=b/\b<=30)) (_:Lf l f) (_:Q (.int (mh b l)) H)
inductive ai3 (K:FG) (C:Addr) (vs:List V) (H:Hp) (Q:VK) (E:XK):Prop
 |mk (p dx:Addr) (m:Int) (_:vs=[.ref p,.int m]) (_:H p=some (.ins C dx [])) (_:Q .non (upd H p (.ins C dx [("day",.int m)])))
inductive Xj (K:FG) (C:Addr) (vs:List V) (H:Hp) (Q:VK) (E:XK):Prop
 |mk (p dx:Addr) (d l f:Int) (_:vs=[.ref p,.int l,.int f]) (_:H p=some (.ins C dx [("day",.int d)])) (_:qf d l f) (_:Q (.int (mi d l f)) H)
inductive Sa (K:FG) (C:Addr) (vs:List V) (H:Hp) (Q:VK) (E:XK):Prop
 |mk (p dx:Addr) (l f:Int) (_:vs=[.ref p,.int l,.int f]) (_:H p=some (.ins C dx [])) (_:qf l l f) (_:Q (.int (1*2^(nw l l f).toNat)) H)
inductive S8 (K:FG) (C:Addr) (vs:List V) (H:Hp) (Q:VK) (E:XK):Prop
 |mk (p dx:Addr) (m:Int) (_:vs=[.ref p,.int m]) (_:H p=some (.ins C dx [])) (_:Q .non (upd H p (.ins C dx [("mask",.int m)])))
inductive MI (K:FG) (C:Addr) (vs:List V) (H:Hp) (Q:VK) (E:XK):Prop
 |mk (p dx:Addr) (m l f:Int) (_:vs=[.ref p,.int l,.int f]) (_:H p=some (.ins C dx [("mask",.int m)])) (_:(0<=m/\m<=127)) (_:Lf l f) (_:Q (.int (rF m l f)) H)
inductive V4 (K:FG) (C:Addr) (vs:List V) (H:Hp) (Q:VK) (E:XK):Prop
 |mk (p dx:Addr) (w m:Int) (_:vs=[.ref p,.int w,.int m]) (_:H p=some (.ins C dx [])) (_:Q .non (upd (upd H p (.ins C dx (fF "weekday" (.int w) []))) p (.ins C dx (lz w m))))
inductive OT (K:FG) (C:Addr) (vs:List V) (H:Hp) (Q:VK) (E:XK):Prop
 |mk (p dx:Addr) (w m l f:Int) (_:vs=[.ref p,.int l,.int f]) (_:H p=some (.ins C dx (lz w m))) (_:(0<=w/\w<=6)) (_:(1<=m/\m<=5)) (_:Lf l f) (_:Q (.int (lc w m l f)) H)
inductive L8 (K:FG) (C:Addr) (vs:List V) (H:Hp) (Q:VK) (E:XK):Prop
 |mk (p dx:Addr) (m:Int) (_:vs=[.ref p,.int m]) (_:H p=some (.ins C dx [])) (_:Q .non (upd H p (.ins C dx [("weekday",.int m)])))
inductive Lq (K:FG) (C:Addr) (vs:List V) (H:Hp) (Q:VK) (E:XK):Prop
 |mk (p dx:Addr) (w l f:Int) (_:vs=[.ref p,.int l,.int f]) (_:H p=some (.ins C dx [("weekday",.int w)])) (_:(0<=w/\w<=6)) (_:Lf l f) (_:Q (.int (KI w l f)) H)
inductive NN (K:FG) (aD aF aG aI aE aA aH aJ:Addr) (vs:List V) (H:Hp) (Q:VK) (E:XK):Prop
 |mk (b:Addr) (ps:List Addr) (ks:List Mk) (l f:Int) (_:vs=[.ref b,.int l,.int f]) (_:SqL K H b (ps.map V.ref)) (_:Ft (MkAt (⟨aD,aF,aG,aI,aE,aA,aH,aJ⟩:Cs) H) ps ks) (_:(∀k∈ks,k.ok)) (_:Lf l f) (_:Q (.int (lK ks l f)) H)
inductive ajU (K:FG) (aD aF aG aI aE aA aH aJ:Addr) (vs:List V) (H:Hp) (Q:VK) (E:XK):Prop
 |mk (t:List Nat) (_:vs=[.str (Tx t)]) (_:t.length<=300) (_:∀(v:V) (H':Hp),Same H H'->Hg (⟨aD,aF,aG,aI,aE,aA,aH,aJ⟩:Cs) H' v (jZ t)->Q v H')
inductive alC (K:FG) (vs:List V) (H:Hp) (Q:VK) (E:XK):Prop
 |mk (t:List Nat) (_:vs=[.str (Tx t)]) (_:t.length<=300) (_:∀H',Same H H'->Q (oV (kD t)) H')
inductive Ls (K:FG) (aD aF aG aI aE aA aH aJ:Addr) (vs:List V) (H:Hp) (Q:VK) (E:XK):Prop
 |mk (t:List Nat) (_:vs=[.str (Tx t)]) (_:t.length<=300) (_:∀(v:V) (H':Hp),Same H H'->Hg (⟨aD,aF,aG,aI,aE,aA,aH,aJ⟩:Cs) H' v (lx t)->Q v H')
inductive ao6 (K:FG) (aD aF aG aI aE aA aH aJ aU aV:Addr) (vs:List V) (H:Hp) (Q:VK) (E:XK):Prop
 |mk (l:List Nat) (lo hi:Int) (wk:Bool) (_:vs=[.str (Tx l),.int lo,.int hi,.ref (if wk=true then aV else aU)]) (_:(0<=lo/\lo<=hi/\hi<=1000)) (_:hX wk lo hi l) (_:∀(p m:Addr) (qs:List Addr) (H':Hp),H m=none->Same H H'->H' p=some (.tup [.int (gL (ii lo hi (eU 44 l))),.ref m])->H' m=some (.lst (qs.map V.ref))->Ft (MkAt (⟨aD,aF,aG,aI,aE,aA,aH,aJ⟩:Cs) H') qs (iA wk lo hi (eU 44 l))->Q (.ref p) H')
inductive OW (K:FG) (aD aF aG aI aE aA aH aJ:Addr) (vs:List V) (H:Hp) (Q:VK) (E:XK):Prop
 |mk (l:List Nat) (_:vs=[.str (Tx l)]) (_:hX false 1 31 l) (_:(l=[42]->∀H',Same H H'->Q .non H')) (_:(l≠[42]->∀(m:Addr) (qs:List Addr) (H':Hp),H m=none->Same H H'->H' m=some (.lst (qs.map V.ref))->Ft (MkAt (⟨aD,aF,aG,aI,aE,aA,aH,aJ⟩:Cs) H') qs (mU false 1 31 l)->Q (.ref m) H'))
inductive TR (K:FG) (aD aF aG aI aE aA aH aJ:Addr) (vs:List V) (H:Hp) (Q:VK) (E:XK):Prop
 |mk (l:List Nat) (_:vs=[.str (Tx l)]) (_:hX true 0 7 l) (_:(l=[42]->∀H',Same H H'->Q .non H')) (_:(l≠[42]->∀(m:Addr) (qs:List Addr) (H':Hp),H m=none->Same H H'->H' m=some (.lst (qs.map V.ref))->Ft (MkAt (⟨aD,aF,aG,aI,aE,aA,aH,aJ⟩:Cs) H') qs (mU true 0 7 l)->Q (.ref m) H'))
inductive RJ (K:FG) (vs:List V) (H:Hp) (Q:VK) (E:XK):Prop
 |mk (k:Int) (_:vs=[.int k]) (_:(0<=k/\k<=90)) (_:∀(p:Addr) (H':Hp),Same H H'->H' p=some (.tup ((mR k).map V.int))->Q (.ref p) H')
inductive atO (K:FG) (vs:List V) (H:Hp) (Q:VK) (E:XK):Prop
 |mk (h m:Int) (_:vs=[.int h,.int m]) (_:(0<=h/\h<2^24)) (_:(0<=m/\m<2^60)) (_:∀(t:Int) (H':Hp),t=hV h m->Same H H'->Q (.int t) H')
inductive YJ (K:FG) (aD aF aG aI aE aA aH aJ:Addr) (vs:List V) (H:Hp) (Q:VK) (E:XK):Prop
 |mk (dv wv:V) (kd kw:Ko) (l f:Int) (_:vs=[dv,wv,.int l,.int f]) (_:DV (⟨aD,aF,aG,aI,aE,aA,aH,aJ⟩:Cs) H dv kd) (_:DV (⟨aD,aF,aG,aI,aE,aA,aH,aJ⟩:Cs) H wv kw) (_:Lf l f) (_:∀H',Same H H'->Q (.int (iQ kd kw l f)) H')
inductive MB (K:FG) (C:Addr) (vs:List V) (H:Hp) (Q:VK) (E:XK):Prop
 |mk (p dx fa:Addr) (m0 m1 m3:Int) (dv wv:V) (_:vs=[.ref p,.ref fa]) (_:H p=some (.ins C dx [])) (_:H fa=some (.lst [.int m0,.int m1,dv,.int m3,wv])) (_:(0<=m0/\m0<2^60)) (_:(0<=m1/\m1<2^24)) (_:∀(tm:Int) (H':Hp),tm=hV m1 m0->H' p=some (.ins C dx (gQ m0 m1 dv m3 wv tm))->(∀b o,H b=some o->b≠p->H' b=some o)->Q .non H')
inductive anQ (K:FG) (C:Addr) (aD aF aG aI aE aA aH aJ:Addr) (vs:List V) (H:Hp) (Q:VK) (E:XK):Prop
 |mk (p dx:Addr) (m0 m1 m3 tm k:Int) (dv wv:V) (kd kw:Ko) (_:vs=[.ref p,.int k]) (_:H p=some (.ins C dx (gQ m0 m1 dv m3 wv tm))) (_:(0<=k/\k<=90)) (_:0<=m3) (_:DV (⟨aD,aF,aG,aI,aE,aA,aH,aJ⟩:Cs) H dv kd) (_:DV (⟨aD,aF,aG,aI,aE,aA,aH,aJ⟩:Cs) H wv kw) (_:∀H',Same H H'->Q (.int (if tb m3 (kg k).toNat=true then iQ kd kw (iO k) (k%7) else 0)) H')
inductive asD (K:FG) (aD aF aG aI aE aA aH aJ:Addr) (vs:List V) (H:Hp) (Q:VK) (E:XK):Prop
 |mk (t:List Nat) (pl:Int) (_:vs=[.str (Tx t),.int pl]) (_:((pl=2/\∃ko,DT false t ko/\∀(v:V) (H':Hp),Same H H'->DV (⟨aD,aF,aG,aI,aE,aA,aH,aJ⟩:Cs) H' v (gO false ko)->(∀p,v=.ref p->H p=none)->Q v H')∨(pl=4/\∃ko,DT true t ko/\∀(v:V) (H':Hp),Same H H'->DV (⟨aD,aF,aG,aI,aE,aA,aH,aJ⟩:Cs) H' v (gO true ko)->(∀p,v=.ref p->H p=none)->Q v H')∨(∃lo hi m:Int,(pl=0/\lo=0/\hi=59∨pl=1/\lo=0/\hi=23∨pl=3/\lo=1/\hi=12)/\FT lo hi t m/\∀H',Same H H'->Q (.int m) H')))
inductive SY (K:FG) (aD aF aG aI aE aA aH aJ:Addr) (vs:List V) (H:Hp) (Q:VK) (E:XK):Prop
 |mk (t:List Nat) (pl:Int) (_:vs=[.str (Tx t),.int pl]) (_:((pl=2/\∃ko,DT false t ko/\∀(v:V) (H':Hp),Same H H'->DV (⟨aD,aF,aG,aI,aE,aA,aH,aJ⟩:Cs) H' v (gO false ko)->(∀p,v=.ref p->H p=none)->Q v H')∨(pl=4/\∃ko,DT true t ko/\∀(v:V) (H':Hp),Same H H'->DV (⟨aD,aF,aG,aI,aE,aA,aH,aJ⟩:Cs) H' v (gO true ko)->(∀p,v=.ref p->H p=none)->Q v H')∨(∃lo hi m:Int,(pl=0/\lo=0/\hi=59∨pl=1/\lo=0/\hi=23∨pl=3/\lo=1/\hi=12)/\FT lo hi t m/\∀H',Same H H'->Q (.int m) H')))
inductive KR (K:FG) (aD aF aG aI aE aA aH aJ aB:Addr) (vs:List V) (H:Hp) (Q:VK) (E:XK):Prop
 |mk (w0 w1 w2 w3 w4:List Nat) (m0 m1 m3:Int) (kd kw:Ko) (_:vs=[.str (Tx (gT 32 [w0,w1,w2,w3,w4]))]) (_:FT 0 59 w0 m0) (_:FT 0 23 w1 m1) (_:FT 1 12 w3 m3) (_:DT false w2 kd) (_:DT true w4 kw) (_:(m0<2^60/\m1<2^24)) (_:∀(x dx:Addr) (dv wv:V) (tm:Int) (H':Hp),tm=hV m1 m0->Same H H'->H' x=some (.ins aB dx (gQ m0 m1 dv m3 wv tm))->DV (⟨aD,aF,aG,aI,aE,aA,aH,aJ⟩:Cs) H' dv (gO false kd)->DV (⟨aD,aF,aG,aI,aE,aA,aH,aJ⟩:Cs) H' wv (gO true kw)->(H x=none/\(∀p,dv=.ref p->H p=none)/\∀p,wv=.ref p->H p=none)->Q (.ref x) H')
inductive QC (K:FG) (C:Addr) (vs:List V) (H:Hp) (Q:VK) (E:XK):Prop
 |mk (p dx:Addr) (m0 m1 m3 tm:Int) (dv wv:V) (_:vs=[.ref p]) (_:H p=some (.ins C dx (gQ m0 m1 dv m3 wv tm))) (_:Q (.int tm) H)
inductive SO (K:FG) (C:Addr) (aD aF aG aI aE aA aH aJ:Addr) (vs:List V) (H:Hp) (Q:VK) (E:XK):Prop
 |mk (p dx:Addr) (m0 m1 m3 tm mo:Int) (dv wv:V) (kd kw:Ko) (_:vs=[.ref p,.int mo]) (_:H p=some (.ins C dx (gQ m0 m1 dv m3 wv tm))) (_:(0<=m0/\0<=m1/\0<=m3)) (_:DV (⟨aD,aF,aG,aI,aE,aA,aH,aJ⟩:Cs) H dv kd) (_:DV (⟨aD,aF,aG,aI,aE,aA,aH,aJ⟩:Cs) H wv kw) (_:∀(y m k:Int) (H':Hp),jn y m k->io y m k=mo / 1440->Same H H'->Q (jw m0 m1 m3 kd kw (mo / 1440) (mo%1440) y m k) H')
inductive Yr (K:FG) (C:Addr) (aD aF aG aI aE aA aH aJ:Addr) (vs:List V) (H:Hp) (Q:VK) (E:XK):Prop
 |mk (p dx:Addr) (m0 m1 m3 tm mo:Int) (dv wv:V) (kd kw:Ko) (_:vs=[.ref p,.int mo]) (_:H p=some (.ins C dx (gQ m0 m1 dv m3 wv tm))) (_:(0<=m0/\0<=m1/\0<=m3)) (_:DV (⟨aD,aF,aG,aI,aE,aA,aH,aJ⟩:Cs) H dv kd) (_:DV (⟨aD,aF,aG,aI,aE,aA,aH,aJ⟩:Cs) H wv kw) (_:∀(y m k:Int) (H':Hp),jn y m k->io y m k=mo / 1440->Same H H'->Q (.bl (decide (jw m0 m1 m3 kd kw (mo / 1440) (mo%1440) y m k=.non))) H')
inductive Py (K:FG) (vs:List V) (H:Hp) (Q:VK) (E:XK):Prop
 |mk (N:Int) (_:vs=[.int (N / 12),.int (N%12+1)]) (_:∀(t:Addr) (H':Hp),Same H H'->H' t=some (.tup [.int ((N+1) / 12),.int ((N+1)%12+1)])->Q (.ref t) H')
inductive LF (K:FG) (vs:List V) (H:Hp) (Q:VK) (E:XK):Prop
 |mk (mo:Int) (_:vs=[.int mo]) (_:∀(N:Int) (t:Addr) (H':Hp),Same H H'->1440*ie N<=mo->mo<1440*ie (N+1)->H' t=some (.tup [.int (N / 12),.int (N%12+1)])->Q (.ref t) H')
inductive Qe (K:FG) (vs:List V) (H:Hp) (Q:VK) (E:XK):Prop
 |mk (d:Addr) (ts:List Int) (_:vs=[.ref d]) (_:SqL K H d (ts.map V.int)) (_:ts.length<=31) (_:(∀t∈ts,ia t)) (_:∀H',Same H H'->Q (.int (lu (λj=>ts.getD j 0) ts.length)) H')
inductive azK (K:FG) (vs:List V) (H:Hp) (Q:VK) (E:XK):Prop
 |mk (m:Int) (k:Nat) (_:vs=[.int m]) (_:0<m) (_:tb m k=true) (_:(∀j,j<k->tb m j=false)) (_:Q (.int k) H)
inductive LC (K:FG) (aD aF aG aI aE aA aH aJ aB:Addr) (vs:List V) (H:Hp) (Q:VK) (E:XK):Prop
 |mk (p dx:Addr) (m0 m1 m3 tm d:Int) (dv wv:V) (kd kw:Ko) (_:vs=[.ref p,.int d]) (_:H p=some (.ins aB dx (gQ m0 m1 dv m3 wv tm))) (_:(0<=m0/\0<=m1/\0<=m3)) (_:DV (⟨aD,aF,aG,aI,aE,aA,aH,aJ⟩:Cs) H dv kd) (_:DV (⟨aD,aF,aG,aI,aE,aA,aH,aJ⟩:Cs) H wv kw) (_:(∀y m k:Int,jn y m k->io y m k=d->tb m3 m.toNat=true->tb (iQ kd kw (fC y m) ((d-k+1+6)%7)) k.toNat=false)) (_:∀(r:Int) (H':Hp),d<=r->Same H H'->Q (.int r) H')
inductive as4 (K:FG) (aD aF aG aI aE aA aH aJ aB:Addr) (vs:List V) (H:Hp) (Q:VK) (E:XK):Prop
 |mk (p dx:Addr) (tw:List Nat) (m0 m1 m3 tm d:Int) (dv wv:V) (kd kw:Ko) (_:vs=[.ref p,.int d,.str (Tx tw)]) (_:H p=some (.ins aB dx (gQ m0 m1 dv m3 wv tm))) (_:(0<=m0/\0<=m1/\0<=m3)) (_:DV (⟨aD,aF,aG,aI,aE,aA,aH,aJ⟩:Cs) H dv kd) (_:DV (⟨aD,aF,aG,aI,aE,aA,aH,aJ⟩:Cs) H wv kw) (_:(tw≠[109,105,110,117,116,101]->tw≠[104,111,117,114]->∀y m k:Int,jn y m k->io y m k=d / 1440->tb m3 m.toNat=true->tb (iQ kd kw (fC y m) ((d / 1440-k+1+6)%7)) k.toNat=false)) (_:∀(r:Int) (H':Hp),d<=r->(tw≠[109,105,110,117,116,101]->(r+1)%60=0)->Same H H'->Q (.int r) H')
inductive amF (K:FG) (vs:List V) (H:Hp) (Q:VK) (E:XK):Prop
 |mk (p:Addr) (vs':List V) (sts:List jV) (a b:Int) (tm:List Nat) (_:vs=[.ref p,.int a,.int b,.str (Tx tm)]) (_:H p=some (.lst vs')) (_:Paired (nL H) vs' sts) (_:vs'.length<=10000000) (_:∀H' us,H' p=some (.lst us)->Paired (nL H') us (ll sts a b tm)->(∀q o,q≠p->H q=some o->H' q=some o)->Q .non H')
inductive Q8 (K:FG) (aD aF aG aI aE aA aH aJ aB:Addr) (vs:List V) (H:Hp) (Q:VK) (E:XK):Prop
 |mk (p:Addr) (b e m0 m1 m3:Int) (kd kw:Ko) (_:vs=[.ref p,.int b,.int e]) (_:RowR (⟨aD,aF,aG,aI,aE,aA,aH,aJ⟩:Cs) aB H p m0 m1 m3 kd kw) (_:(∀t,b<=t->t<=e->¬om (i8 (hV m1 m0) m3 kd kw) t)) (_:e-b<=23000000) (_:∀l H',Same H H'->Q (.ref l) H')
inductive Ji (K:FG) (C:Addr) (aD aF aG aI aE aA aH aJ:Addr) (vs:List V) (H:Hp) (Q:VK) (E:XK):Prop
 |mk (p dx:Addr) (m0 m1 m3 tm k:Int) (dv wv:V) (kd kw:Ko) (_:vs=[.ref p,.int k]) (_:H p=some (.ins C dx (gQ m0 m1 dv m3 wv tm))) (_:(0<=k/\k<=90)) (_:0<=m3) (_:DV (⟨aD,aF,aG,aI,aE,aA,aH,aJ⟩:Cs) H dv kd) (_:DV (⟨aD,aF,aG,aI,aE,aA,aH,aJ⟩:Cs) H wv kw) (_:∀D H',H D=none->Same H H'->H' D=some (.lst ((jJ (i8 tm m3 kd kw) k).map V.int))->Q (.ref D) H')
inductive UX (P:Program) (w:World) (mg:Str->Option Value) (base:Heap) (K:FG) (vs:List V) (H:Hp) (Q:VK) (E:XK):Prop
 |mk (kn f:Addr) (kd:Int) (kvs:List (fA×V)) (g:Int->Nat->Int) (H0:Hp) (_:vs=[.ref kn,.ref f,.int kd]) (_:(0<=kd/\kd<=90)) (_:H kn=some (.dK kvs)) (_:pZ g kvs) (_:kvs.length<=1000) (_:gG g) (_:H0 kn=none) (_:Same H0 H) (_:Bj P w K mg base 8 H0 f g) (_:∀kvs' H',H' kn=some (.dK kvs')->pZ g kvs'->kvs'.length<=kvs.length+1->(∀b o,b≠kn->H b=some o->H' b=some o)->Q (.int (wK g kd)) H')
inductive Ro (P:Program) (w:World) (mg:Str->Option Value) (base:Heap) (K:FG) (vs:List V) (H:Hp) (Q:VK) (E:XK):Prop
 |mk (f:Addr) (mo:Int) (g:Int->Nat->Int) (_:vs=[.ref f,.int mo]) (_:gG g) (_:Bj P w K mg base 8 H f g) (_:(∀e H',Same H H'->om g e->mo<=e->(∀t,mo<=t->t<e->¬om g t)->e-mo<=22000000->Q (.int e) H')) (_:(∀H',Same H H'->Q .non H'))
inductive S9 (K:FG) (aD aF aG aI aE aA aH aJ aB aR aS:Addr) (vs:List V) (H:Hp) (Q:VK) (E:XK):Prop
 |mk (p:Addr) (mo m0 m1 m3:Int) (kd kw:Ko) (_:vs=[.ref p,.int mo]) (_:RowR (⟨aD,aF,aG,aI,aE,aA,aH,aJ⟩:Cs) aB H p m0 m1 m3 kd kw) (_:kH H aR aS) (_:∀t l H' (v:V),SameN H H'->kH H' aR aS->H' t=some (.tup [v,.ref l])->((∃e,v=.int e)∨v=.non)->Q (.ref t) H')
def Te(K:FG)(aD aF aG aI aE aA aH aJ aB aQ aP aL aM aK aO:Addr):Sp:=λvs H Q _=>ET K (⟨(⟨aD,aF,aG,aI,aE,aA,aH,aJ⟩:Cs),aB,eJ aQ aP aL aM aK aO⟩:Bc) vs H Q E0
def alB(K:FG)(aD aF aG aI aE aA aH aJ aB aQ aP aL aM aK aO:Addr):Sp:=λvs H Q _=>ET K (⟨(⟨aD,aF,aG,aI,aE,aA,aH,aJ⟩:Cs),aB,eJ aQ aP aL aM aK aO⟩:Bc) vs H Q E0
def amW(K:FG)(C:Addr)(aD aF aG aI aE aA aH aJ aB aQ aP aL aM aK aO:Addr):Sp:=λvs H Q _=>Bm (⟨(⟨aD,aF,aG,aI,aE,aA,aH,aJ⟩:Cs),aB,eJ aQ aP aL aM aK aO⟩:Bc) vs H Q E0
def Lo(K:FG)(C:Addr)(aD aF aG aI aE aA aH aJ aB aQ aP aL aM aK aO:Addr):Sp:=λvs H Q _=>G7 K (⟨(⟨aD,aF,aG,aI,aE,aA,aH,aJ⟩:Cs),aB,eJ aQ aP aL aM aK aO⟩:Bc) .J vs H Q E0
def P1(K:FG)(C:Addr)(aD aF aG aI aE aA aH aJ aB aQ aP aL aM aK aO:Addr):Sp:=λvs H Q _=>G7 K (⟨(⟨aD,aF,aG,aI,aE,aA,aH,aJ⟩:Cs),aB,eJ aQ aP aL aM aK aO⟩:Bc) .M vs H Q E0
def WA(K:FG)(C:Addr)(aD aF aG aI aE aA aH aJ aB aQ aP aL aM aK aO:Addr):Sp:=λvs H Q _=>Co (⟨(⟨aD,aF,aG,aI,aE,aA,aH,aJ⟩:Cs),aB,eJ aQ aP aL aM aK aO⟩:Bc) vs H Q E0
def S1(K:FG)(C:Addr)(aD aF aG aI aE aA aH aJ aB aQ aP aL aM aK aO:Addr):Sp:=λvs H Q _=>Ff (⟨(⟨aD,aF,aG,aI,aE,aA,aH,aJ⟩:Cs),aB,eJ aQ aP aL aM aK aO⟩:Bc) vs H Q E0
inductive aDN (K:FG) (C:Addr) (aD aF aG aI aE aA aH aJ aB aQ aP aL aM aK aO:Addr) (vs:List V) (H:Hp) (Q:VK) (E:XK):Prop
 |mk  (_:True)
inductive aGD (K:FG) (C:Addr) (aD aF aG aI aE aA aH aJ aB aQ aP aL aM aK aO:Addr) (vs:List V) (H:Hp) (Q:VK) (E:XK):Prop
 |mk  (_:True)
inductive aAE (K:FG) (C:Addr) (aD aF aG aI aE aA aH aJ aB aQ aP aL aM aK aO:Addr) (vs:List V) (H:Hp) (Q:VK) (E:XK):Prop
 |mk  (_:True)
inductive aDT (K:FG) (C:Addr) (aD aF aG aI aE aA aH aJ aB aQ aP aL aM aK aO:Addr) (vs:List V) (H:Hp) (Q:VK) (E:XK):Prop
 |mk  (_:True)
inductive aDO (K:FG) (C:Addr) (aD aF aG aI aE aA aH aJ aB aQ aP aL aM aK aO:Addr) (vs:List V) (H:Hp) (Q:VK) (E:XK):Prop
 |mk  (_:True)
inductive aAF (K:FG) (C:Addr) (aD aF aG aI aE aA aH aJ aB aQ aP aL aM aK aO:Addr) (vs:List V) (H:Hp) (Q:VK) (E:XK):Prop
 |mk  (_:True)
inductive K1 (K:FG) (vs:List V) (H:Hp) (Q:VK) (E:XK):Prop
 |mk (a:Addr) (k:Int) (_:vs=[.ref a,.int k]) (_:(∃ns:List Int,SqL K H a (ns.map V.int))) (_:(0<=k/\k<1000)) (_:∀c:Int,Q (.int c) H)
inductive Vi (K:FG) (vs:List V) (H:Hp) (Q:VK) (E:XK):Prop
 |mk (n:Int) (_:vs=[.int n]) (_:∀r:Int,0<=r->r<2147483629->Q (.int r) H)
inductive Yt (K:FG) (vs:List V) (H:Hp) (Q:VK) (E:XK):Prop
 |mk (c:Int) (a:Addr) (b:Bool) (ss:List Int) (_:vs=[.int c,.ref a,.bl b]) (_:SqL K H a (ss.map V.int)) (_:(∀z∈ss,0<z/\z<1073741824)) (_:ss.length<=63) (_:∀(ds:List Int) (p:Addr) (H':Hp),Same H H'->H' p=some (.lst (ds.map V.int))->Digs ds ss->Q (.ref p) H')
inductive OR (K:FG) (vs:List V) (H:Hp) (Q:VK) (E:XK):Prop
 |mk (i:Int) (_:vs=[.int i]) (_:Q (.bl true) H)
inductive ao8 (K:FG) (vs:List V) (H:Hp) (Q:VK) (E:XK):Prop
 |mk (p:Addr) (d0 d1 d2 d3 lo hi:Int) (_:vs=[.ref p,.int lo,.int hi]) (_:H p=some (.lst [.int d0,.int d1,.int d2,.int d3])) (_:(0<=d0/\d0<7)) (_:(0<=d3/\d3<9)) (_:(0<=lo/\lo<=hi/\hi<=59)) (_:∀(t:List Nat) (m:Int) (H':Hp),Same H H'->FT lo hi t m->m<2^(hi.toNat+1)->Q (.str (Tx t)) H')
inductive YR (K:FG) (aD aF aG aI aE aA aH aJ aB:Addr) (vs:List V) (H:Hp) (Q:VK) (E:XK):Prop
 |mk (c:Int) (bm:Bool) (_:vs=[.int c,.bl bm]) (_:∀(x:Addr) (m0 m1 m3:Int) (kd kw:Ko) (H':Hp),Same H H'->RowA (λp=>H p=none) (⟨aD,aF,aG,aI,aE,aA,aH,aJ⟩:Cs) aB H' x m0 m1 m3 kd kw->Q (.ref x) H')
inductive Yw (K:FG) (vs:List V) (H:Hp) (Q:VK) (E:XK):Prop
 |mk (c:Int) (bm:Bool) (_:vs=[.int c,.bl bm]) (_:∀(mo:Int) (H':Hp),Same H H'->Q (.int mo) H')
inductive asO (K:FG) (aD aF aG aI aE aA aH aJ aB aQ aP aL aM aK aO aR aS:Addr) (vs:List V) (H:Hp) (Q:VK) (E:XK):Prop
 |mk (A:Addr->Prop) (t:V) (b:Bt) (c:Int) (bm:Bool) (_:vs=[t,.int c,.bl bm]) (_:Tr A (⟨(⟨aD,aF,aG,aI,aE,aA,aH,aJ⟩:Cs),aB,eJ aQ aP aL aM aK aO⟩:Bc) 3 H t b) (_:kH H aR aS) (_:∀(r:Int) (H':Hp),SameN H H'->kH H' aR aS->Q (.int r) H')
def aDP(K:FG)(aD aF aG aI aE aA aH aJ aB aQ aP aL aM aK aO:Addr):Sp:=λvs H Q _=>nv (⟨(⟨aD,aF,aG,aI,aE,aA,aH,aJ⟩:Cs),aB,eJ aQ aP aL aM aK aO⟩:Bc) 3 vs H Q E0
inductive Nr (K:FG) (aD aF aG aI aE aA aH aJ aB aQ aP aL aM aK aO:Addr) (vs:List V) (H:Hp) (Q:VK) (E:XK):Prop
 |mk (x dx:Addr) (i:Kc) (fs:Fl) (_:vs=[.ref x]) (_:H x=some (.ins ((⟨(⟨aD,aF,aG,aI,aE,aA,aH,aJ⟩:Cs),aB,eJ aQ aP aL aM aK aO⟩:Bc).k i) dx fs)) (_:∀D H',Same H H'->H' D=some (.lst ((qL i).map V.bl))->Q (.ref D) H')
inductive O7 (K:FG) (aD aF aG aI aE aA aH aJ aB aQ aP aL aM aK aO:Addr) (vs:List V) (H:Hp) (Q:VK) (E:XK):Prop
 |mk (A:Addr->Prop) (t x Di:Addr) (_:vs=[.ref t,.ref x,.ref Di]) (_:NdOk A (⟨(⟨aD,aF,aG,aI,aE,aA,aH,aJ⟩:Cs),aB,eJ aQ aP aL aM aK aO⟩:Bc) H t x Di) (_:∀H',Same H H'->Q (.bl true) H')
inductive Rc (K:FG) (aD aF aG aI aE aA aH aJ aB aQ aP aL aM aK aO:Addr) (vs:List V) (H:Hp) (Q:VK) (E:XK):Prop
 |mk (A:Addr->Prop) (t x Di:Addr) (_:vs=[.ref t,.ref x,.ref Di]) (_:NdOk A (⟨(⟨aD,aF,aG,aI,aE,aA,aH,aJ⟩:Cs),aB,eJ aQ aP aL aM aK aO⟩:Bc) H t x Di) (_:∀H',Same H H'->Q (.bl true) H')
inductive ZT (K:FG) (aD aF aG aI aE aA aH aJ aB aQ aP aL aM aK aO:Addr) (vs:List V) (H:Hp) (Q:VK) (E:XK):Prop
 |mk (A:Addr->Prop) (t x Di:Addr) (mo:Int) (_:vs=[.ref t,.ref x,.int mo]) (_:NdOk A (⟨(⟨aD,aF,aG,aI,aE,aA,aH,aJ⟩:Cs),aB,eJ aQ aP aL aM aK aO⟩:Bc) H t x Di) (_:∀H',Same H H'->Q (.bl true) H')
inductive qh (K:FG) (aR aS:Addr) (vs:List V) (H:Hp) (Q:VK) (E:XK):Prop
 |mk (a:Addr) (ns:List Int) (_:vs=[.ref a]) (_:SqL K H a (ns.map V.int)) (_:ns.length<=63) (_:kH H aR aS) (_:∀H',Q (.bl true) H')
theorem md_Last___init__{K:FG}{C f T:Addr}{od an tod:Option Addr}{sl tsl:Array (Option Value)}{oc kV dc pm cd ct:Value}{tn:Nat}{t0:Tok}(a:PySem.W.findIn K (.ref C) "__init__"=some (some (.ref f)))(i:PySem.W.isFn K (.ref f)=true)(l:K.lookup f=some ⟨oc,od,.func (PySem.W.fnOf "__init__" "Last.__init__" (jf nK) (iG nK) (eG nK) (.ref T) kV dc pm an cd ct),sl⟩)(c:PySem.W.codeIn K cd "Last.__init__"=true)(k:PySem.W.keepIn K (.ref f)=true)(lt:K.lookup T=some ⟨.type "tuple",tod,.seq #[.int 0 t0] tn,tsl⟩):FnMD K C "__init__" "Last.__init__" nK ["self","back"] [.int 0]:=
 QF (ds:=[.int 0 t0]) a i l c k (λs us X hl=>match us,(show us.length=2 by simpa using hl) with | [_,_],_=>PySem.W.binds_K X rfl lt rfl rfl rfl) (.cons ⟨()⟩ .nil) (λs us X hl=>match us,(show us.length=1 by simpa using hl) with | [_],_=>PySem.W.binds_K X rfl lt rfl rfl rfl)
theorem q_MONTH_LASTS{K:FG}{a:Addr}{od:Option Addr}{sl:Array (Option Value)}{n:Nat}{t0 t1 t2 t3 t4 t5 t6 t7 t8 t9 t10 t11:Tok}(l:K.lookup a=some ⟨.type "tuple",od,.seq #[.int 31 t0,.int 28 t1,.int 31 t2,.int 30 t3,.int 31 t4,.int 30 t5,.int 31 t6,.int 31 t7,.int 30 t8,.int 31 t9,.int 30 t10,.int 31 t11] n,sl⟩):∀H,SqT K H a (([31,28,31,30,31,30,31,31,30,31,30,31]:List Int).map V.int):=λH=>.inr ⟨_,_,_,l,rfl,rfl,(zL 12),(.cons ⟨()⟩ (.cons ⟨()⟩ (.cons ⟨()⟩ (.cons ⟨()⟩ (.cons ⟨()⟩ (.cons ⟨()⟩ (.cons ⟨()⟩ (.cons ⟨()⟩ (.cons ⟨()⟩ (.cons ⟨()⟩ (.cons ⟨()⟩ (.cons ⟨()⟩ .nil))))))))))))⟩
theorem q_BOUNDS{K:FG}{a b0 b1 b3:Addr}{ep:Nat}{t0 t1 t3:Tok}(l:K.lookup a=some ⟨.type "dict",none,.dict #[⟨0,.int 0 t0,.ref b0⟩,⟨1,.int 1 t1,.ref b1⟩,⟨3,.int 3 t3,.ref b3⟩] ep,#[]⟩):KD K a [(0,.ref b0),(1,.ref b1),(3,.ref b3)]:=by
 refine⟨_,ep,[(.inl 0,.ref b0),(.inl 1,.ref b1),(.inl 3,.ref b3)],l,(.cons ⟨rfl,rfl⟩ (.cons ⟨rfl,rfl⟩ (.cons ⟨rfl,rfl⟩ .nil))),(show ([.inl 0,.inl 1,.inl 3]:List fA).Nodup by decide),λP w=>⟨?_,(.cons rfl rfl (.cons rfl rfl (.cons rfl rfl .nil)))⟩⟩;intro e he;simp only[Array.mem_toArray,bA,c9,or_false] at he;rcases he with rfl | rfl | rfl
 ·exact⟨.inl 0,rfl,rfl⟩
 ·exact⟨.inl 1,rfl,rfl⟩
 ·exact⟨.inl 3,rfl,rfl⟩
theorem q_BOUNDS_0{K:FG}{a:Addr}{od:Option Addr}{sl:Array (Option Value)}{n:Nat}{t0 t1:Tok}(l:K.lookup a=some ⟨.type "tuple",od,.seq #[.int 0 t0,.int 59 t1] n,sl⟩):∀H,SqT K H a (([0,59]:List Int).map V.int):=λH=>.inr ⟨_,_,_,l,rfl,rfl,(zL 2),(.cons ⟨()⟩ (.cons ⟨()⟩ .nil))⟩
theorem q_BOUNDS_1{K:FG}{a:Addr}{od:Option Addr}{sl:Array (Option Value)}{n:Nat}{t0 t1:Tok}(l:K.lookup a=some ⟨.type "tuple",od,.seq #[.int 0 t0,.int 23 t1] n,sl⟩):∀H,SqT K H a (([0,23]:List Int).map V.int):=λH=>.inr ⟨_,_,_,l,rfl,rfl,(zL 2),(.cons ⟨()⟩ (.cons ⟨()⟩ .nil))⟩
theorem q_BOUNDS_3{K:FG}{a:Addr}{od:Option Addr}{sl:Array (Option Value)}{n:Nat}{t0 t1:Tok}(l:K.lookup a=some ⟨.type "tuple",od,.seq #[.int 1 t0,.int 12 t1] n,sl⟩):∀H,SqT K H a (([1,12]:List Int).map V.int):=λH=>.inr ⟨_,_,_,l,rfl,rfl,(zL 2),(.cons ⟨()⟩ (.cons ⟨()⟩ .nil))⟩
theorem mg_tx{K:FG}{h:Heap}{mg:Str->Option Value}{x n:Str}{l:List Nat}{t:Tok}(X:K.In h)(G:h.Ns mainGlobals mg)(e:x=Tx l)(a:PySem.W.nsIn K mainGlobals n=some (some (.str x t))):mg n=some (.str (Tx l) t):=e▸PySem.W.mg_of X G a
theorem SG:dW ["year"] ["year"] (eG (top 13)):=eP
theorem PV:dW ["year","step"] ["year","step"] (eG (top 14)):=eP
theorem Uo:dW ["year","longs"] ["year"] (eG (top 15)):=eP
theorem P5:dW ["year","month"] ["year","month"] (eG (top 16)):=eP
theorem Xs:dW ["thing"] ["thing"] (eG (top 8)):=eP
theorem O9:dW ["year","month","day"] ["year","month","day"] (eG (top 17)):=eP
theorem Um:dW ["year","month","day","ahead"] ["year","month","day"] (eG (top 18)):=eP
theorem UQ:dW ["day","year"] ["day"] (eG (top 19)):=eP
theorem Ul:dW ["day","year","month","rest"] ["day"] (eG (top 20)):=eP
theorem WK:dW ["day"] ["day"] (eG (top 21)):=eP
theorem Ur:dW ["year","month","day","place"] ["year","month","day"] (eG (top 34)):=eP
theorem aw6:dW ["year","month"] ["year","month"] (eG (top 35)):=eP
theorem UB:dW ["moment","time"] ["moment"] (eG (top 29)):=eP
theorem Pb:dW ["text"] ["text"] (eG (top 24)):=eP
theorem XB:dW ["text"] ["text"] (eG (top 25)):=eP
theorem N8:dW ["mask","number"] ["mask","number"] (eG (top 39)):=eP
theorem Uu:dW ["numbers","mask","number"] ["numbers"] (eG (top 50)):=eP
theorem ao1:dW ["mask"] ["mask"] (eG (top 51)):=eP
theorem Su:dW ["first","last","stride"] ["first","last","stride"] (eG (top 52)):=eP
theorem UH:dW ["text","low","high","number"] ["text","low","high"] (eG (top 53)):=eP
theorem UJ:dW ["text","low","high","ends"] ["text","low","high"] (eG (top 54)):=eP
theorem UK:dW ["run_text","stride_text","low","high","run","stride","last"] ["run_text","stride_text","low","high"] (eG (top 55)):=eP
theorem UF:dW ["item","low","high","parts","run"] ["item","low","high"] (eG (top 56)):=eP
theorem UE:dW ["text","low","high","items","mask","place","item","told"] ["text","low","high"] (eG (top 57)):=eP
theorem PH:dW ["day","first"] ["day","first"] (eG (top 67)):=eP
theorem Lp:dW ["last"] ["last"] (eG (top 68)):=eP
theorem Uy:dW ["day","last","first","of_week"] ["day","last","first"] (eG (top 69)):=eP
theorem YI:dW ["weekday","first"] ["weekday","first"] (eG (top 70)):=eP
theorem N2:dW ["self","last","first"] ["self","last","first"] (eG KC):=eP
theorem YB:dW ["self","mask"] ["self","mask"] (eG Ia):=eP
theorem RA:dW ["self","last","first"] ["self","last","first"] (eG Jt):=eP
theorem YV:dW ["self","back"] ["self","back"] (eG nK):=eP
theorem ar3:dW ["self","last","first"] ["self","last","first"] (eG Gc):=eP
theorem ajR:dW ["self","day"] ["self","day"] (eG Jy):=eP
theorem VZ:dW ["self","last","first"] ["self","last","first"] (eG Ht):=eP
theorem MU:dW ["self","last","first"] ["self","last","first"] (eG Fh):=eP
theorem SI:dW ["self","mask"] ["self","mask"] (eG Gy):=eP
theorem U4:dW ["self","last","first","weeks","week"] ["self","last","first"] (eG HE):=eP
theorem Om:dW ["self","weekday","many"] ["self","weekday","many"] (eG DS):=eP
theorem U0:dW ["self","last","first","day"] ["self","last","first"] (eG IG):=eP
theorem Mu:dW ["self","weekday"] ["self","weekday"] (eG JJ):=eP
theorem alE:dW ["self","last","first"] ["self","last","first"] (eG IH):=eP
theorem Uk:dW ["marks","last","first","mask","mark"] ["marks","last","first"] (eG (top 79)):=eP
theorem UC:dW ["item","back","day"] ["item"] (eG (top 80)):=eP
theorem UL:dW ["text","number"] ["text"] (eG (top 81)):=eP
theorem UM:dW ["item","weekday","parts","many"] ["item"] (eG (top 82)):=eP
theorem UG:dW ["text","low","high","read_mark","items","mask","marks","place","item","plain","mark"] ["text","low","high","read_mark"] (eG (top 83)):=eP
theorem UD:dW ["text","read"] ["text"] (eG (top 84)):=eP
theorem UN:dW ["text","read","mask"] ["text"] (eG (top 85)):=eP
theorem Uw:dW ["kind","place","first"] ["kind"] (eG (top 36)):=eP
theorem UP:dW ["hours","minutes","times","hour"] ["hours","minutes"] (eG (top 95)):=eP
theorem Up:dW ["days","weekdays","last","first","mask","marks"] ["days","weekdays","last","first"] (eG (top 96)):=eP
theorem Qz:dW ["self","fields"] ["self","fields"] (eG KJ):=eP
theorem U1:dW ["self","kind","month"] ["self","kind"] (eG IQ):=eP
theorem UO:dW ["word","place","bounds"] ["word","place"] (eG (top 98)):=eP
theorem YC:dW ["word","place"] ["word","place"] (eG (top 99)):=eP
theorem UI:dW ["text","words"] ["text"] (eG (top 100)):=eP
theorem NU:dW ["self"] ["self"] (eG G5):=eP
theorem U3:dW ["self","moment","parts","date"] ["self","moment"] (eG Eu):=eP
theorem RQ:dW ["self","moment"] ["self","moment"] (eG Gu):=eP
theorem Xd:dW ["year","month"] ["year","month"] (eG (top 37)):=eP
theorem Ux:dW ["moment","date"] ["moment"] (eG (top 126)):=eP
theorem Uv:dW ["days","minutes","place","times"] ["days"] (eG (top 124)):=eP
theorem NA:dW ["mask"] ["mask"] (eG (top 40)):=eP
theorem Us:dW ["row","day","date","kind","later"] ["row","day"] (eG (top 119)):=eP
theorem Nk:dW ["row","moment","word"] ["row","moment","word"] (eG (top 120)):=eP
theorem MJ:dW ["stretches","first","last","told"] ["stretches","first","last","told"] (eG (top 118)):=eP
theorem UA:dW ["row","begin","end","stretches","moment","word","last"] ["row","begin","end"] (eG (top 121)):=eP
theorem U2:dW ["self","kind","days","last"] ["self","kind"] (eG IX):=eP
theorem ao9:dW ["known","on_days","kind"] ["known","on_days","kind"] (eG (top 125)):=eP
theorem Uq:dW ["on_days","moment","month","known","turn","start","passed","rest"] ["on_days","moment"] (eG (top 127)):=eP
theorem Uz:dW ["row","moment","found"] ["row","moment"] (eG (top 128)):=eP
theorem Er:dW ["self"] ["self"] (eG Hs):=eP
theorem E4:dW ["self"] ["self"] (eG GN):=eP
theorem EA:dW ["self"] ["self"] (eG Kr):=eP
theorem EX:dW ["self"] ["self"] (eG E6):=eP
theorem GV:dW ["self"] ["self"] (eG JW):=eP
theorem Ed:dW ["self"] ["self"] (eG JN):=eP
theorem Ym:dW ["books"] ["books"] (eG (top 107)):=eP
theorem IV:dW ["self"] ["self"] (eG Gd):=eP
theorem Ek:dW ["self"] ["self"] (eG IP):=eP
theorem FA:dW ["self"] ["self"] (eG DY):=eP
theorem JD:dW ["self"] ["self"] (eG HR):=eP
theorem Gg:dW ["self"] ["self"] (eG FK):=eP
theorem Kx:dW ["self"] ["self"] (eG FV):=eP
theorem YK:dW ["books"] ["books"] (eG (top 108)):=eP
theorem So:dW ["books"] ["books"] (eG (top 110)):=eP
theorem Vr:dW ["books"] ["books"] (eG (top 111)):=eP
theorem anX:dW ["self","row"] ["self","row"] (eG IT):=eP
theorem VL:dW ["self","books"] ["self","books"] (eG JA):=eP
theorem ZE:dW ["self","books"] ["self","books"] (eG HW):=eP
theorem aj6:dW ["self","one","other"] ["self","one","other"] (eG GL):=eP
theorem Z9:dW ["self","one"] ["self","one"] (eG KO):=eP
theorem Em:dW ["self","moment"] ["self","moment"] (eG FY):=eP
theorem FL:dW ["self","moment"] ["self","moment"] (eG IM):=eP
theorem Hr:dW ["self","moment"] ["self","moment"] (eG DW):=eP
theorem J1:dW ["self","moment"] ["self","moment"] (eG Gf):=eP
theorem Ke:dW ["self","moment"] ["self","moment"] (eG EW):=eP
theorem Ej:dW ["self","moment"] ["self","moment"] (eG GT):=eP
theorem L3:dW ["_law_script","_law_k"] ["_law_script","_law_k"] (eG (top 130)):=eP
theorem Ui:dW ["_law_number","_law_first","_law_second"] ["_law_number"] (eG (top 131)):=eP
theorem U5:dW ["_law_cell","_law_sizes_here","_law_mixed","_law_found","_law_size"] ["_law_cell","_law_sizes_here","_law_mixed"] (eG (top 132)):=eP
theorem X7:dW ["_law_found"] ["_law_found"] (eG (top 133)):=eP
theorem U6:dW ["_law_parts","_law_low","_law_high","_law_one","_law_later","_law_by","_law_some"] ["_law_parts","_law_low","_law_high"] (eG (top 134)):=eP
theorem Ue:dW ["_law_cell","_law_mixed","_law_parts","_law_one","_law_day","_law_days","_law_weekdays","_law_words"] ["_law_cell","_law_mixed"] (eG (top 135)):=eP
theorem Uj:dW ["_law_script","_law_n","_law_deep","_law_mixed","_law_parts","_law_row_here","_law_word","_law_many"] ["_law_script","_law_n","_law_deep","_law_mixed"] (eG (top 136)):=eP
theorem Uf:dW ["_law_tree_here","_law_rows_here","_law_part"] ["_law_tree_here"] (eG (top 137)):=eP
theorem Ub:dW ["_law_cell","_law_mixed","_law_parts","_law_year","_law_on","_law_number"] ["_law_cell","_law_mixed"] (eG (top 139)):=eP
theorem Uc:dW ["_law_tree_here","_law_cell","_law_mixed","_law_parts","_law_moment_here","_law_rows_here","_law_found"] ["_law_tree_here","_law_cell","_law_mixed"] (eG (top 140)):=eP
theorem U7:dW ["_law_tree_here","_law_moment_here","_law_word","_law_parts","_law_held"] ["_law_tree_here","_law_moment_here"] (eG (top 138)):=eP
theorem Uh:dW ["_law_book","_law_some"] ["_law_book"] (eG (top 141)):=eP
theorem Ua:dW ["_law_tree_here","_law_made_here","_law_word","_law_parts","_law_inner","_law_book"] ["_law_tree_here","_law_made_here"] (eG (top 142)):=eP
theorem Ug:dW ["_law_tree_here","_law_sizes_here"] ["_law_tree_here"] (eG (top 143)):=eP
theorem U9:dW ["_law_tree_here","_law_book","_law_inner","_law_word"] ["_law_tree_here","_law_book","_law_inner"] (eG (top 144)):=eP
theorem U8:dW ["_law_tree_here","_law_book","_law_inner","_law_due","_law_sizes_here"] ["_law_tree_here","_law_book","_law_inner"] (eG (top 145)):=eP
theorem Ud:dW ["_law_tree_here","_law_book","_law_moment_here","_law_word","_law_inner"] ["_law_tree_here","_law_book","_law_moment_here"] (eG (top 146)):=eP
theorem Ut:dW ["_law_script","_law_mixed","_law_tree_here","_law_made_here","_law_book","_law_moments","_law_one","_law_some","_law_inner","_law_other","_law_moment_here","_law_due","_law_found"] ["_law_script"] (eG (top 147)):=eP
structure Fs(K:FG)(mg:Str->Option Value)(aJ aD aF aG aI aE aA aH aB aQ aP aL aM aK aO aV aU aW aR aS a_MONTH_LASTS a_BOUNDS a_BOUNDS_0 a_BOUNDS_1 a_BOUNDS_3:Addr)(t_ROUND_DAYS t_ROUND_YEARS t_LONG_PLACE t_DAY_MINUTES t_HOUR_MINUTES t_FIGURES t_MOST_STRIDE t_MOST_SIGNS t_MOST_ITEMS t_SATURDAY t_SUNDAY t_MOST_BACK t_MOST_DAY t_SUNDAY_TOO t_MOST_NTH t_MOST_MARKS t_ALL_WEEKDAYS t_LONG_LAST t_SHORT_YEAR t_MINUTE t_HOUR t_DAY t_MONTH t_WEEKDAY t_MOST_ROW_SIGNS t_NO_PLACE t_MOST_MONTHS t_MOST_TALLY t_MOST_DEPTH t_MOST_BOOKS:Tok):Prop where
 g4:Cd K mg "Mark" aJ
 hd:PySem.W.findIn K (.ref aJ) "__init__"=some (some (.builtin "object.__init__"))
 a3:Cd K mg "Numbers" aD
 be:PySem.W.findIn K (.ref aD) "mask"=some none
 a4:Cd K mg "Last" aF
 a7:PySem.W.findIn K (.ref aF) "back"=some none
 a8:Cd K mg "Near" aG
 a9:PySem.W.findIn K (.ref aG) "day"=some none
 cg:Cd K mg "LastWork" aI
 ft:PySem.W.findIn K (.ref aI) "__init__"=some (some (.builtin "object.__init__"))
 a0:Cd K mg "Weekdays" aE
 ba:PySem.W.findIn K (.ref aE) "mask"=some none
 bb:Cd K mg "Nth" aA
 bp:PySem.W.findIn K (.ref aA) "weekday"=some none
 ch:PySem.W.findIn K (.ref aA) "many"=some none
 a5:Cd K mg "LastOne" aH
 a6:PySem.W.findIn K (.ref aH) "weekday"=some none
 ad:Cd K mg "Row" aB
 as:PySem.W.findIn K (.ref aB) "minute_mask"=some none
 ax:PySem.W.findIn K (.ref aB) "hour_mask"=some none
 bc:PySem.W.findIn K (.ref aB) "day_marks"=some none
 au:PySem.W.findIn K (.ref aB) "month_mask"=some none
 a1:PySem.W.findIn K (.ref aB) "weekday_marks"=some none
 ay:PySem.W.findIn K (.ref aB) "time_mask"=some none
 ak:Cd K mg "Book" aQ
 g5:PySem.W.findIn K (.ref aQ) "__init__"=some (some (.builtin "object.__init__"))
 aq:Cd K mg "Of" aP
 br:PySem.W.findIn K (.ref aP) "row"=some none
 ab:Cd K mg "Joined" aL
 ag:PySem.W.findIn K (.ref aL) "books"=some none
 ah:Cd K mg "Met" aM
 ai:PySem.W.findIn K (.ref aM) "books"=some none
 ae:Cd K mg "Less" aK
 ap:PySem.W.findIn K (.ref aK) "one"=some none
 al:PySem.W.findIn K (.ref aK) "other"=some none
 ac:Cd K mg "Turned" aO
 am:PySem.W.findIn K (.ref aO) "one"=some none
 a2:mg "read_weekday_mark"=some (.ref aV)
 bd:mg "read_day_mark"=some (.ref aU)
 cb:IsC K aQ
 c8:IsC K aP
 bl:IsC K aL
 cr:IsC K aM
 cc:IsC K aK
 bm:IsC K aO
 cd:PySem.W.kitOne K (.ref aQ) (.ref aQ)=some true
 c9:PySem.W.kitOne K (.ref aP) (.ref aQ)=some true
 bn:PySem.W.kitOne K (.ref aL) (.ref aQ)=some true
 cs:PySem.W.kitOne K (.ref aM) (.ref aQ)=some true
 ce:PySem.W.kitOne K (.ref aK) (.ref aQ)=some true
 bo:PySem.W.kitOne K (.ref aO) (.ref aQ)=some true
 g6:IsC K aB
 g7:PySem.W.kitOne K (.ref aB) (.ref aB)=some true
 fu:PySem.W.kitOne K (.ref aQ) (.ref aP)=some false
 dm:PySem.W.kitOne K (.ref aQ) (.ref aL)=some false
 fa:PySem.W.kitOne K (.ref aQ) (.ref aM)=some false
 en:PySem.W.kitOne K (.ref aQ) (.ref aK)=some false
 dn:PySem.W.kitOne K (.ref aQ) (.ref aO)=some false
 gx:PySem.W.kitOne K (.ref aP) (.ref aP)=some true
 eo:PySem.W.kitOne K (.ref aP) (.ref aL)=some false
 gj:PySem.W.kitOne K (.ref aP) (.ref aM)=some false
 fv:PySem.W.kitOne K (.ref aP) (.ref aK)=some false
 ep:PySem.W.kitOne K (.ref aP) (.ref aO)=some false
 eq:PySem.W.kitOne K (.ref aL) (.ref aP)=some false
 c2:PySem.W.kitOne K (.ref aL) (.ref aL)=some true
 d5:PySem.W.kitOne K (.ref aL) (.ref aM)=some false
 dp:PySem.W.kitOne K (.ref aL) (.ref aK)=some false
 c3:PySem.W.kitOne K (.ref aL) (.ref aO)=some false
 gk:PySem.W.kitOne K (.ref aM) (.ref aP)=some false
 d6:PySem.W.kitOne K (.ref aM) (.ref aL)=some false
 fw:PySem.W.kitOne K (.ref aM) (.ref aM)=some true
 fb:PySem.W.kitOne K (.ref aM) (.ref aK)=some false
 d7:PySem.W.kitOne K (.ref aM) (.ref aO)=some false
 fx:PySem.W.kitOne K (.ref aK) (.ref aP)=some false
 dq:PySem.W.kitOne K (.ref aK) (.ref aL)=some false
 fc:PySem.W.kitOne K (.ref aK) (.ref aM)=some false
 er:PySem.W.kitOne K (.ref aK) (.ref aK)=some true
 dr:PySem.W.kitOne K (.ref aK) (.ref aO)=some false
 es:PySem.W.kitOne K (.ref aO) (.ref aP)=some false
 c4:PySem.W.kitOne K (.ref aO) (.ref aL)=some false
 d8:PySem.W.kitOne K (.ref aO) (.ref aM)=some false
 ds:PySem.W.kitOne K (.ref aO) (.ref aK)=some false
 c5:PySem.W.kitOne K (.ref aO) (.ref aO)=some true
 g8:yl K aB
 d9:mg "MONTH_LASTS"=some (.ref a_MONTH_LASTS)
 bq:∀H,SqT K H a_MONTH_LASTS (([31,28,31,30,31,30,31,31,30,31,30,31]:List Int).map V.int)
 bs:mg "ROUND_DAYS"=some (.int 146097 t_ROUND_DAYS)
 ea:mg "ROUND_YEARS"=some (.int 400 t_ROUND_YEARS)
 bt:mg "LONG_PLACE"=some (.int 12 t_LONG_PLACE)
 af:mg "DAY_MINUTES"=some (.int 1440 t_DAY_MINUTES)
 an:mg "HOUR_MINUTES"=some (.int 60 t_HOUR_MINUTES)
 gl:mg "FIGURES"=some (.str (Tx [48,49,50,51,52,53,54,55,56,57]) t_FIGURES)
 eb:mg "MOST_STRIDE"=some (.int 99 t_MOST_STRIDE)
 bu:mg "MOST_SIGNS"=some (.int 300 t_MOST_SIGNS)
 av:mg "MOST_ITEMS"=some (.int 40 t_MOST_ITEMS)
 fy:mg "SATURDAY"=some (.int 6 t_SATURDAY)
 c6:mg "SUNDAY"=some (.int 0 t_SUNDAY)
 fd:mg "MOST_BACK"=some (.int 30 t_MOST_BACK)
 ci:mg "MOST_DAY"=some (.int 31 t_MOST_DAY)
 aw:mg "SUNDAY_TOO"=some (.int 7 t_SUNDAY_TOO)
 fz:mg "MOST_NTH"=some (.int 5 t_MOST_NTH)
 et:mg "MOST_MARKS"=some (.int 20 t_MOST_MARKS)
 dt:mg "ALL_WEEKDAYS"=some (.int 127 t_ALL_WEEKDAYS)
 fe:mg "LONG_LAST"=some (.int 29 t_LONG_LAST)
 eu:mg "SHORT_YEAR"=some (.int 1 t_SHORT_YEAR)
 gy:mg "MINUTE"=some (.int 0 t_MINUTE)
 g9:mg "HOUR"=some (.int 1 t_HOUR)
 f0:mg "DAY"=some (.int 2 t_DAY)
 g3:mg "MONTH"=some (.int 3 t_MONTH)
 ct:mg "WEEKDAY"=some (.int 4 t_WEEKDAY)
 gz:mg "BOUNDS"=some (.ref a_BOUNDS)
 bv:KD K a_BOUNDS [(0,.ref a_BOUNDS_0),(1,.ref a_BOUNDS_1),(3,.ref a_BOUNDS_3)]
 cj:∀H,SqT K H a_BOUNDS_0 (([0,59]:List Int).map V.int)
 ck:∀H,SqT K H a_BOUNDS_1 (([0,23]:List Int).map V.int)
 cl:∀H,SqT K H a_BOUNDS_3 (([1,12]:List Int).map V.int)
 c7:mg "MOST_ROW_SIGNS"=some (.int 1600 t_MOST_ROW_SIGNS)
 f1:mg "NO_PLACE"=some (.int 5 t_NO_PLACE)
 ec:mg "MOST_MONTHS"=some (.int 492 t_MOST_MONTHS)
 ev:mg "MOST_TALLY"=some (.int 24 t_MOST_TALLY)
 ew:mg "MOST_DEPTH"=some (.int 5 t_MOST_DEPTH)
 ex:mg "MOST_BOOKS"=some (.int 8 t_MOST_BOOKS)
 ey:mT K mg aW aR aS
 da:mg "int"=none
 aa:mg "isinstance"=none
 cu:mg "bool"=none
 ar:mg "range"=none
 db:mg "sum"=none
 dc:mg "all"=none
 cv:mg "list"=none
 ao:mg "len"=none
 aj:mg "str"=none
 az:mg "enumerate"=none
 ha:mg "min"=none
 dd:mg "max"=none
 cf:mg "tuple"=none
 hb:mg "any"=none
 f2:mg "abs"=none
 gm:Fn K mg "is_long" (top 13) ["year"]
 cw:Fn K mg "multiples_before" (top 14) ["year","step"]
 ed:Fn K mg "days_before" (top 15) ["year"]
 gn:Fn K mg "last_of" (top 16) ["year","month"]
 f3:Fn K mg "is_whole" (top 8) ["thing"]
 go:Fn K mg "is_date" (top 17) ["year","month","day"]
 g0:Fn K mg "day_of" (top 18) ["year","month","day"]
 gp:Fn K mg "year_of" (top 19) ["day"]
 gq:Fn K mg "date_of" (top 20) ["day"]
 gr:Fn K mg "weekday" (top 21) ["day"]
 ff:Fn K mg "kind_from" (top 34) ["year","month","day"]
 gs:Fn K mg "kind_of" (top 35) ["year","month"]
 g1:Fn K mg "parted" (top 29) ["moment"]
 ee:Fn K mg "all_figures" (top 24) ["text"]
 ez:Fn K mg "is_written" (top 25) ["text"]
 hc:Fn K mg "has" (top 39) ["mask","number"]
 gt:Fn K mg "mask_of" (top 50) ["numbers"]
 e0:Fn K mg "numbers_in" (top 51) ["mask"]
 f4:Fn K mg "run_mask" (top 52) ["first","last","stride"]
 ef:Fn K mg "read_number" (top 53) ["text","low","high"]
 f5:Fn K mg "read_run" (top 54) ["text","low","high"]
 du:Fn K mg "read_strided" (top 55) ["run_text","stride_text","low","high"]
 fg:Fn K mg "read_item" (top 56) ["item","low","high"]
 e1:Fn K mg "read_field" (top 57) ["text","low","high"]
 e2:Fn K mg "weekday_at" (top 67) ["day","first"]
 f6:Fn K mg "all_days" (top 68) ["last"]
 dv:Fn K mg "nearest_work" (top 69) ["day","last","first"]
 fh:Fn K mg "first_one" (top 70) ["weekday","first"]
 fi:FnM K aJ "days" "Mark.days" KC ["self","last","first"]
 cx:FnM K aD "__init__" "Numbers.__init__" Ia ["self","mask"]
 dw:FnM K aD "days" "Numbers.days" Jt ["self","last","first"]
 de:FnMD K aF "__init__" "Last.__init__" nK ["self","back"] [.int 0]
 fj:FnM K aF "days" "Last.days" Gc ["self","last","first"]
 df:FnM K aG "__init__" "Near.__init__" Jy ["self","day"]
 fk:FnM K aG "days" "Near.days" Ht ["self","last","first"]
 dg:FnM K aI "days" "LastWork.days" Fh ["self","last","first"]
 cp:FnM K aE "__init__" "Weekdays.__init__" Gy ["self","mask"]
 dh:FnM K aE "days" "Weekdays.days" HE ["self","last","first"]
 dx:FnM K aA "__init__" "Nth.__init__" DS ["self","weekday","many"]
 f7:FnM K aA "days" "Nth.days" IG ["self","last","first"]
 cy:FnM K aH "__init__" "LastOne.__init__" JJ ["self","weekday"]
 dy:FnM K aH "days" "LastOne.days" IH ["self","last","first"]
 f8:Fn K mg "any_days" (top 79) ["marks","last","first"]
 di:Fn K mg "read_day_mark" (top 80) ["item"]
 dz:Fn K mg "read_weekday" (top 81) ["text"]
 cq:Fn K mg "read_weekday_mark" (top 82) ["item"]
 e3:Fn K mg "read_items" (top 83) ["text","low","high","read_mark"]
 fl:Fn K mg "read_days" (top 84) ["text"]
 dj:Fn K mg "read_weekdays" (top 85) ["text"]
 f9:Fn K mg "month_at" (top 36) ["kind"]
 ga:Fn K mg "times_of" (top 95) ["hours","minutes"]
 gu:Fn K mg "days_by" (top 96) ["days","weekdays","last","first"]
 d0:FnM K aB "__init__" "Row.__init__" KJ ["self","fields"]
 eg:FnM K aB "days_in" "Row.days_in" IQ ["self","kind"]
 fm:Fn K mg "read_word" (top 98) ["word","place"]
 gv:Fn K mg "read_at" (top 99) ["word","place"]
 gb:Fn K mg "read_row" (top 100) ["text"]
 fn:FnM K aB "times" "Row.times" G5 ["self"]
 eh:FnM K aB "shut_by" "Row.shut_by" Eu ["self","moment"]
 fo:FnM K aB "holds" "Row.holds" Gu ["self","moment"]
 e4:Fn K mg "next_month" (top 37) ["year","month"]
 gc:Fn K mg "month_of" (top 126) ["moment"]
 e5:Fn K mg "minutes_on" (top 124) ["days"]
 g2:Fn K mg "lowest" (top 40) ["mask"]
 dk:Fn K mg "last_shut_day" (top 119) ["row","day"]
 gd:Fn K mg "shut_end" (top 120) ["row","moment","word"]
 ei:Fn K mg "add_stretch" (top 118) ["stretches","first","last","told"]
 ge:Fn K mg "paper_of" (top 121) ["row","begin","end"]
 ej:FnM K aB "on_days" "Row.on_days" IX ["self","kind"]
 e6:Fn K mg "minutes_by" (top 125) ["known","on_days","kind"]
 gf:Fn K mg "first_at" (top 127) ["on_days","moment"]
 fp:FnC K mg "next_from" (top 128) ["row","moment"] aW
 bw:FnM K aQ "tally" "Book.tally" Hs ["self"]
 cm:FnM K aP "tally" "Book.tally" GN ["self"]
 bf:FnM K aL "tally" "Joined.tally" Kr ["self"]
 b5:FnM K aM "tally" "Met.tally" E6 ["self"]
 bx:FnM K aK "tally" "Less.tally" JW ["self"]
 bg:FnM K aO "tally" "Turned.tally" JN ["self"]
 gg:Fn K mg "tally_of" (top 107) ["books"]
 bz:FnM K aQ "depth" "Book.depth" Gd ["self"]
 cn:FnM K aP "depth" "Book.depth" IP ["self"]
 bh:FnM K aL "depth" "Joined.depth" DY ["self"]
 b6:FnM K aM "depth" "Met.depth" HR ["self"]
 b0:FnM K aK "depth" "Less.depth" FK ["self"]
 bi:FnM K aO "depth" "Turned.depth" FV ["self"]
 gh:Fn K mg "depth_of" (top 108) ["books"]
 gw:Fn K mg "checked" (top 110) ["books"]
 d1:Fn K mg "checked_list" (top 111) ["books"]
 ek:FnM K aP "__init__" "Of.__init__" IT ["self","row"]
 c0:FnM K aL "__init__" "Joined.__init__" JA ["self","books"]
 d2:FnM K aM "__init__" "Met.__init__" HW ["self","books"]
 dl:FnM K aK "__init__" "Less.__init__" GL ["self","one","other"]
 c1:FnM K aO "__init__" "Turned.__init__" KO ["self","one"]
 b1:FnM K aQ "holds" "Book.holds" FY ["self","moment"]
 co:FnM K aP "holds" "Of.holds" IM ["self","moment"]
 bj:FnM K aL "holds" "Joined.holds" DW ["self","moment"]
 b7:FnM K aM "holds" "Met.holds" Gf ["self","moment"]
 b2:FnM K aK "holds" "Less.holds" EW ["self","moment"]
 bk:FnM K aO "holds" "Turned.holds" GT ["self","moment"]
 d3:Fn K mg "_law_cell_at" (top 130) ["_law_script","_law_k"]
 fq:Fn K mg "_law_stir" (top 131) ["_law_number"]
 el:Fn K mg "_law_digits" (top 132) ["_law_cell","_law_sizes_here","_law_mixed"]
 e7:Fn K mg "_law_whole" (top 133) ["_law_found"]
 e8:Fn K mg "_law_field" (top 134) ["_law_parts","_law_low","_law_high"]
 gi:Fn K mg "_law_row" (top 135) ["_law_cell","_law_mixed"]
 b8:Fn K mg "_law_tree" (top 136) ["_law_script","_law_n","_law_deep","_law_mixed"]
 b9:Fn K mg "_law_rows" (top 137) ["_law_tree_here"]
 em:Fn K mg "_law_moment" (top 139) ["_law_cell","_law_mixed"]
 fr:Fn K mg "_law_near" (top 140) ["_law_tree_here","_law_cell","_law_mixed"]
 b3:Fn K mg "_law_holds" (top 138) ["_law_tree_here","_law_moment_here"]
 e9:Fn K mg "_law_sorts" (top 141) ["_law_book"]
 ca:Fn K mg "_law_made" (top 142) ["_law_tree_here","_law_made_here"]
 b4:Fn K mg "_law_sizes" (top 143) ["_law_tree_here"]
 fs:Fn K mg "_law_kept" (top 144) ["_law_tree_here","_law_book","_law_inner"]
 d4:Fn K mg "_law_is_made" (top 145) ["_law_tree_here","_law_book","_law_inner"]
 cz:Fn K mg "_law_parts_right" (top 146) ["_law_tree_here","_law_book","_law_moment_here"]
section
set_option maxHeartbeats 4000000
variable{P:Program}{w:World}{K:FG}{mg:Str->Option Value}{base:Heap}{aJ aD aF aG aI aE aA aH aB aQ aP aL aM aK aO aV aU aW aR aS a_MONTH_LASTS a_BOUNDS a_BOUNDS_0 a_BOUNDS_1 a_BOUNDS_3:Addr}{t_ROUND_DAYS t_ROUND_YEARS t_LONG_PLACE t_DAY_MINUTES t_HOUR_MINUTES t_FIGURES t_MOST_STRIDE t_MOST_SIGNS t_MOST_ITEMS t_SATURDAY t_SUNDAY t_MOST_BACK t_MOST_DAY t_SUNDAY_TOO t_MOST_NTH t_MOST_MARKS t_ALL_WEEKDAYS t_LONG_LAST t_SHORT_YEAR t_MINUTE t_HOUR t_DAY t_MONTH t_WEEKDAY t_MOST_ROW_SIGNS t_NO_PLACE t_MOST_MONTHS t_MOST_TALLY t_MOST_DEPTH t_MOST_BOOKS:Tok}(ZZ:Fs K mg aJ aD aF aG aI aE aA aH aB aQ aP aL aM aK aO aV aU aW aR aS a_MONTH_LASTS a_BOUNDS a_BOUNDS_0 a_BOUNDS_1 a_BOUNDS_3 t_ROUND_DAYS t_ROUND_YEARS t_LONG_PLACE t_DAY_MINUTES t_HOUR_MINUTES t_FIGURES t_MOST_STRIDE t_MOST_SIGNS t_MOST_ITEMS t_SATURDAY t_SUNDAY t_MOST_BACK t_MOST_DAY t_SUNDAY_TOO t_MOST_NTH t_MOST_MARKS t_ALL_WEEKDAYS t_LONG_LAST t_SHORT_YEAR t_MINUTE t_HOUR t_DAY t_MONTH t_WEEKDAY t_MOST_ROW_SIGNS t_NO_PLACE t_MOST_MONTHS t_MOST_TALLY t_MOST_DEPTH t_MOST_BOOKS)
include ZZ
theorem II:Dx P w base ZZ.gm 1 (NO K):=by
 refine ZZ.gm.dfs SG (by trivial) ?_;rintro _ _ _ _ s H _ Q E hr⟨y,rfl,q⟩;refine⟨_,(dX (eF (kE (iD fU (dZ ig Y0 eI) eI) (jW (qF (iD l6 (dZ ig Y0 eI) eI) (jW (iD fU (dZ ig Y0 eI) eI))))))),?_⟩;refine⟨(),(()),(by show (0:Int)<4;decide),rfl,(),?_⟩;refine gX (λc1=>?_) (λc1=>?_)
 ·refine⟨(),(()),(by show (0:Int)<100;decide),rfl,(),?_⟩;refine HU (λc2=>?_) (λc2=>?_)
  ·rw[E8 ⟨c1,.inl c2⟩] at q;exact q
  ·refine⟨(),(()),(by show (0:Int)<400;decide),rfl,?_⟩;by_cases c3:y%400=0
   ·rw[E8 ⟨c1,.inr c3⟩] at q;show Q (.bl (decide (V.int (y%400)=V.int 0))) H;rw[dN (int_eq.mpr c3)];exact q
   ·rw[Ie ⋯] at q;show Q (.bl (decide (V.int (y%400)=V.int 0))) H;rw[dP λe=>c3 (int_eq.mp e)];exact q
 ·rw[Ie ⋯] at q;exact q
theorem yp:Dx P w base ZZ.cw 1 (Zf K):=by
 refine ZZ.cw.dfs PV (by trivial) ?_;rintro _ _ _ _ s H _ Q E hr⟨y,z,rfl,hz,q⟩;refine⟨_,(dX (eF (dZ jO (dZ gW (dZ fG Y0 Y1) eI) Y1))),?_⟩;refine⟨(),(),(()),(()),(),(()),hz,?_⟩;exact q
theorem yh:Dx P w base ZZ.ed 2 (K2 K):=by
 refine ZZ.ed.dfs Uo (by trivial) ?_;rintro _ _ _ _ s H _ Q E hr⟨y,rfl,q⟩;refine⟨_,(eC (eK 1 (dZ fG (dZ gW (eD (yp ZZ) hr (A2 Y0 eI)) (eD (yp ZZ) hr (A2 Y0 eI))) (eD (yp ZZ) hr (A2 Y0 eI))) Uo.nd) (dX (eF (dZ fG (dZ iW eI Y0) Y1)))),?_⟩;extract_lets;refine⟨(),_,(),⟨by decide,by decide⟩,(),_,(),⟨by decide,by decide⟩,(()),(),_,(),⟨by decide,by decide⟩,(()),?_⟩;refine⟨(),(()),.inl ⟨by decide,by decide⟩,(),(()),?_⟩
 exact q
theorem pb:Dx P w base ZZ.gn 2 (QV K):=by
 refine ZZ.gn.dfs P5 (by trivial) ?_;rintro _ _ _ _ s H _ Q E hr⟨y,m,rfl,⟨h1,h2⟩,q⟩;refine⟨_,(eC (eX (tW (mP (eW fU Y1 eI) (og (gY (eD (II ZZ) hr (A1 Y0)))))) (dX (eF eI)) eZ) (dX (eF (eO (fN (K:=K)) (fE (v:=.ref a_MONTH_LASTS) ZZ.d9 rfl) (dZ gW Y1 eI))))),?_⟩;extract_lets;refine⟨(),rfl,(),?_⟩;refine gX (λc1=>?_) (λc1=>?_)
 ·refine⟨(),(),(),?_⟩;by_cases c2:iZ y=true
  ·have e:fC y m=29:=by unfold fC jx;rw[if_pos c1,if_pos c2];rfl
   rw[e] at q;show if iZ y=true then _ else _
   rw[if_pos c2];exact q
  ·have e:fC y m=lasts.getD (m-1).toNat 0:=by unfold fC jx;rw[if_pos c1,if_neg c2,c1];rfl
   rw[e] at q;show if iZ y=true then _ else _
   rw[if_neg c2];refine⟨(),(()),a_MONTH_LASTS,_,(()),ZZ.bq H,ER h1 h2,?_⟩;exact q
 ·have e:fC y m=lasts.getD (m-1).toNat 0:=by unfold fC;rw[if_neg c1]
  rw[e] at q;refine fK ?_;refine⟨(),(()),a_MONTH_LASTS,_,(()),ZZ.bq H,ER h1 h2,?_⟩;exact q
theorem Dl:Dx P w base ZZ.f3 1 (Xi K):=by
 refine ZZ.f3.dfs Xs (by trivial) ?_;rintro _ _ _ _ s H _ Q E hr⟨i,rfl,q⟩;refine⟨_,(dX (eF (kE (fX E1 ZZ.aa PyProof.Rows.boot_isinstance (A2 Y0 (kU ZZ.da PyProof.Rows.boot_int))) (jW (mL (fX FR ZZ.aa PyProof.Rows.boot_isinstance (A2 Y0 (kU ZZ.cu PyProof.Rows.boot_bool)))))))),?_⟩;refine⟨(),(),(),?_⟩;refine fR ?_;refine⟨(),(),(),?_⟩;exact q
theorem UW:Dx P w base ZZ.go 3 (Pa K):=by
 refine ZZ.go.dfs O9 (by trivial) ?_;rintro _ _ _ _ s H _ Q E hr⟨y,m,k,rfl,⟨hm,k1,k2⟩,q⟩;refine⟨_,(eC (eX (iI (tW (mP (gY (eD (Dl ZZ) hr (A1 Y0))) (mP (gY (eD (Dl ZZ) hr (A1 Y1))) (og (gY (eD (Dl ZZ) hr (A1 Y2)))))))) (dX (eF eB)) eZ) (dX (eF (kE (D5 kQ kQ eI Y1 eI) (jW (D5 kQ kQ eI Y2 (eD (pb ZZ) hr (A2 Y0 Y1)))))))),?_⟩;extract_lets;refine⟨(),(),(),fR ⟨(),(),(),fR ⟨(),(),(),fK ?_⟩⟩⟩
 refine⟨(),(()),(),?_⟩;rw[dN hm.1];refine fR ⟨(()),(),?_⟩;rw[dN hm.2];refine fR ⟨(),(()),(),?_⟩;rw[dN k1];refine fR ⟨(),(),_,(),hm,(()),?_⟩;show Q (.bl (decide (k<=fC y m))) H;rw[dN k2];exact q
theorem Fq:Dx P w base ZZ.g0 4 (Oh K):=by
 refine ZZ.g0.dfs Um (by trivial) ?_;rintro _ _ _ _ s H _ Q E hr⟨y,m,k,rfl,hv,q⟩;refine⟨_,(eC (eX (iI (gY (eD (UW ZZ) hr (A3 Y0 Y1 Y2)))) (dX jL) eZ) (eC (eK 3 (fX xt ZZ.db PyProof.Rows.boot_sum (A1 (i9 ["year"] [0] (Ha ZZ.ar (A2 eI Y1)) (λ_ _ _ _ _ _=>iq) (λ_ _ _ _ _ _=>(eD (pb ZZ) hr (A2 Y1 Y0)))))) Um.nd) (dX (eF (dZ gW (dZ fG (dZ fG (eD (yh ZZ) hr (A1 Y0)) Y3) Y2) eI))))),?_⟩
 extract_lets;obtain⟨⟨hm1,hm2⟩,hk⟩:=id hv;refine⟨(),(),(),_,_,(),hv,(),fK ?_⟩;refine⟨(),_,(),⟨by decide,by decide,⋯,⋯⟩,xq (λi l=>l=(List.range i).map λi:Nat=>V.int (fC y (1+(i:Int)))) (by show (m-1).toNat<=sizeLine;rw[dI];omega) rfl ?_ ?_⟩
 ·intro i l D H2 E' F' hi hR hD s2 hl hE hF;subst hR;exact⟨(),(),_,(),⟨⋯,⋯⟩,hE _ _ (Same.refl _) (Fy _ _).symm⟩
 ·intro D H2 l hR hD s2 hl;subst hR;refine⟨D,(List.range (m-1).toNat).map λi:Nat=>fC y (1+(i:Int)),rfl,SqL.of (by rw[hl,cM];rfl),?_⟩;refine⟨(),(),(),(()),(),(()),(()),?_⟩;have e:((List.range (m-1).toNat).map λi:Nat=>fC y (1+(i:Int))).sum=ahead y m:=EJ y _;rw[e];exact q _ s2
theorem LD:Dx P w base ZZ.gp 3 (Lx K):=by
 refine ZZ.gp.dfs UQ (by trivial) ?_;rintro _ _ _ _ s H _ Q E hr⟨d,rfl,q⟩;refine⟨_,(eC (eK 1 (dZ fG (dZ iW (dZ jO Y0 (fE (v:=.int 146097) ZZ.bs ⟨()⟩)) (fE (v:=.int 400) ZZ.ea ⟨()⟩)) (dZ jO (dZ ig Y0 (fE (v:=.int 146097) ZZ.bs ⟨()⟩)) eI)) UQ.nd) (eC (vg (eW kQ (eD (yh ZZ) hr (A1 (dZ fG Y1 eI))) Y0) (dX (eK 1 (dZ fG Y1 eI) UQ.nd)) PassesOwn.never) (dX (eF Y1)))),?_⟩;extract_lets
 refine⟨(),(()),⟨by decide,by decide⟩,(()),.inr ⟨by decide,by decide⟩,(),(()),(by show (0:Int)<146097;decide),(()),⟨by decide,by decide⟩,(()),?_⟩;refine uB (λσ H'=>H'=H/\∃y:Int,σ=[some (.int d),some (.int y)]/\db y<=d) (λσ _=>(d-db (iv σ 1)).toNat) ?_ ?_
 ·refine⟨rfl,(),?_⟩;have h1:=Ma (q:=d / 146097) (z:=d%146097 / 366) ⋯;omega
 ·rintro σ H' ⟨rfl,y,rfl,hy⟩;refine⟨(),(()),(),(),(()),(),?_⟩;refine il (λc=>?_) (λc=>?_)
  ·refine⟨_,λ_ _ h=>h,?_⟩;refine⟨(),(()),?_⟩;have h1:=rW y;have h2:=IC y;exact⟨_,(by show (d-db (y+1)).toNat<(d-db y).toNat;omega),rfl,rfl,(),c⟩
  ·exact⟨(),q y hy ⋯⟩
theorem tU:Dx P w base ZZ.gq 4 (av4 K):=by
 refine ZZ.gq.dfs Ul (by trivial) ?_;rintro _ _ _ _ s H _ Q E hr⟨d,rfl,q⟩;refine⟨_,(eC (eK 1 (eD (LD ZZ) hr (A1 Y0)) Ul.nd) (eC (eK 2 eI Ul.nd) (eC (eK 3 (dZ gW Y0 (eD (yh ZZ) hr (A1 Y1))) Ul.nd) (eC (vg (eW AE Y3 (eD (pb ZZ) hr (A2 Y1 Y2))) (eC (eK 3 (dZ gW Y3 (eD (pb ZZ) hr (A2 Y1 Y2))) Ul.nd) (dX (eK 2 (dZ fG Y2 eI) Ul.nd))) PassesOwn.never) (dX (eF (ij (A3 Y1 Y2 (dZ fG Y3 eI))))))))),?_⟩
 extract_lets;refine⟨(),(),λy hy1 hy2=>?_⟩;refine⟨(),(),(),(()),?_⟩;refine uB (λσ H'=>H'=H/\∃m r:Int,σ=[some (.int d),some (.int y),some (.int m),some (.int r)]/\(1<=m/\m<=12)/\0<=r/\db y+ahead y m+r=d) (λσ _=>(13-(iv σ 2)).toNat) ?_ ?_
 ·have a4:ahead y 1=0:=rfl;exact⟨rfl,1,(),⟨by decide,by decide⟩,⋯,⋯⟩
 ·rintro σ H' ⟨rfl,m,r,rfl,hm,hr0,he⟩;refine⟨(),(),(),_,(),hm,(()),(),?_⟩;have a1:=rB (y:=y) hm.1;refine il (λc=>?_) (λc=>?_)
  ·have a2:=AU y;have a3:=rW y;have hm12:m<12:=by
    rcases Int.lt_or_le m 12 with z | z
    ·exact z
    ·have e12:m=12:=⋯;subst e12;have a5:ahead y (12+1)=ahead y 13:=rfl;omega
   refine⟨_,λ_ _ h=>h,?_⟩;refine⟨(),(),(),_,(),hm,(()),?_⟩;refine⟨(),(()),?_⟩;exact⟨_,(by show (13-(m+1)).toNat<(13-m).toNat;omega),rfl,rfl,m+1,r-fC y m,rfl,⟨⋯,⋯⟩,⋯,⋯⟩
  ·refine⟨(),(),(),(()),(zL 3),λp hp=>?_⟩;exact q y m (r+1) p _ ⟨hm,⋯,⋯⟩ (by unfold io;omega) (eE hp _) dY
theorem YZ:Dx P w base ZZ.gr 1 (Rq K):=by
 refine ZZ.gr.dfs WK (by trivial) ?_;rintro _ _ _ _ s H _ Q E hr⟨d,rfl,q⟩;refine⟨_,(dX (eF (dZ ig (dZ fG Y0 eI) eI))),?_⟩;exact⟨(),(()),(()),(by show (0:Int)<7;decide),q⟩
theorem TV:Dx P w base ZZ.ff 2 (NZ K):=by
 refine ZZ.ff.dfs Ur (by trivial) ?_;rintro _ _ _ _ s H _ Q E hr⟨y,m,d,rfl,q⟩;refine⟨_,(eC (eK 3 (lC (tW (mP (eW fU Y1 eI) (og (gY (eD (II ZZ) hr (A1 Y0)))))) (fE (v:=.int 12) ZZ.bt ⟨()⟩) (dZ gW Y1 eI)) Ur.nd) (dX (eF (dZ fG (dZ iW eI Y3) (eD (YZ ZZ) hr (A1 Y2)))))),?_⟩;extract_lets;have q':∀pl:Int,jR y m=pl->Q (.int (7*pl+(d+6)%7)) H:=λpl e=>by
  rw[←e];exact q
 refine⟨(),rfl,(),?_⟩;refine gX (λc1=>⟨(),(),(),?_⟩) (λc1=>fK ?_)
 ·by_cases c2:iZ y=true
  ·show if iZ y=true then _ else _
   rw[if_pos c2];exact⟨(),(()),.inl ⟨by decide,by decide⟩,(),(),(()),q' _ (by unfold jR;rw[if_pos ⟨c1,c2⟩])⟩
  ·show if iZ y=true then _ else _
   rw[if_neg c2];exact⟨(),(()),(),(()),.inl ⟨by decide,by decide⟩,(),(),(()),q' _ (by unfold jR;rw[if_neg λz=>c2 z.2])⟩
 ·exact⟨(),(()),(),(()),.inl ⟨by decide,by decide⟩,(),(),(()),q' _ (by unfold jR;rw[if_neg λz=>c1 z.1])⟩
theorem BC:Dx P w base ZZ.gs 5 (aw9 K):=by
 refine ZZ.gs.dfs aw6 (by trivial) ?_;rintro _ _ _ _ s H _ Q E hr⟨y,m,rfl,hm,q⟩;refine⟨_,(dX (eF (eD (TV ZZ) hr (A3 Y0 Y1 (eD (Fq ZZ) hr (A3 Y0 Y1 eI)))))),?_⟩;have hl1:1<=fC y m:=by have:=GP (y:=y) hm.1 hm.2;omega
 have e6:db y+ahead y m+1-1+6=db y+ahead y m+6:=⋯;refine⟨(),(),(),(),_,_,(),⟨hm,by decide,hl1⟩,λH' s'=>⟨_,_,(),?_⟩⟩;rw[e6];exact q H' s'
theorem Zm:Dx P w base ZZ.g1 1 (X6 K):=by
 refine ZZ.g1.dfs UB (by trivial) ?_;rintro _ _ _ _ s H _ Q E hr⟨mo,rfl,q⟩;refine⟨_,(eC (eK 1 (dZ ig Y0 (fE (v:=.int 1440) ZZ.af ⟨()⟩)) UB.nd) (dX (eF (ij (A3 (dZ jO Y0 (fE (v:=.int 1440) ZZ.af ⟨()⟩)) (dZ jO Y1 (fE (v:=.int 60) ZZ.an ⟨()⟩)) (dZ ig Y1 (fE (v:=.int 60) ZZ.an ⟨()⟩))))))),?_⟩;extract_lets;refine⟨(),(()),(by show (0:Int)<1440;decide),?_⟩;exact⟨(),(()),⟨by decide,by decide⟩,(),(()),⟨by decide,by decide⟩,(),(()),(by show (0:Int)<60;decide),(zL 3),λp hp=>q p _ (eE hp _) dY⟩
theorem amR:Dx P w base ZZ.ee 1 (aoE K):=by
 refine ZZ.ee.dfs Pb (by trivial) ?_;rintro _ _ _ _ s H _ Q E hr⟨l,rfl,hl,q⟩;refine⟨_,(dX (eF (kE (iD l6 Y0 (eV [])) (jW (fX tD ZZ.dc boot_all (A1 (i9 [] [] (iX Y0) (λ_ _ _ _ _ _=>iq) (λ_ _ _ _ _ _=>(iD C0 Y0 (fE (v:=.str (Tx [48,49,50,51,52,53,54,55,56,57])) ZZ.gl ⟨()⟩)))))))))),?_⟩;refine⟨(),rfl,(),?_⟩;rw[pK l []];by_cases c:l=[]
 ·rw[dN c];have e:lR l=false:=by unfold lR;rw[dN c];rfl
  rw[e] at q;exact fK (q H (Same.refl H))
 ·rw[dP c];have e:lR l=l.all kB:=by unfold lR;rw[dP c];rfl
  rw[e] at q;refine fR ⟨(),Tx l,rfl,Ny (xs:=l) (λi z=>z=((l.take i).map kB).map V.bl) (by rw[dI];omega) rfl ?_ ?_⟩
  ·intro i ch z D H2 E' F' hv hR hD s2 hz hE hF;subst hR;refine⟨(),ch,qm,rfl,rfl,?_⟩;rw[Vw];exact hE _ _ (Same.refl _) (by rw[bH,hv,a8,a8];rfl)
  ·intro D H2 z hR hD s2 hz;subst hR;rw[bL] at hz;refine⟨D,l.map kB,rfl,SqL.of hz,?_⟩;rw[List.all_map];exact q H2 s2
theorem E7:Dx P w base ZZ.ez 2 (XS K):=by
 refine ZZ.ez.dfs XB (by trivial) ?_;rintro _ _ _ _ s H _ Q E hr⟨l,rfl,hl,q⟩;refine⟨_,(dX (eF (kE (eD (amR ZZ) hr (A1 Y0)) (jW (qF (iD fU Y0 (eV [48])) (jW (iD l6 (eO xX Y0 eI) (eV [48])))))))),?_⟩;refine⟨(),l,rfl,hl,λH1 s1=>⟨(),?_⟩⟩;refine G4 (λc=>?_) (λc=>?_)
 ·have hne:l≠[]:=λe=>by
   unfold lR at c;rw[dN e] at c;exact absurd (show false=true from c) bG
  refine⟨(),rfl,(),?_⟩;rw[pK l [48]];by_cases c2:l=[48]
  ·rw[dN c2];have e:iR l=true:=by unfold iR;rw[c,dN c2];rfl
   rw[e] at q;exact fR (q H1 s1)
  ·rw[dP c2];obtain⟨x,r,rfl⟩:∃x r,l=x::r:=by
    cases l with
    |nil=>exact absurd rfl hne
    |cons x r=>exact⟨x,r,rfl⟩
   refine fK ⟨(),x::r,0,x,rfl,rfl,(by rw[dI];omega),(show iF (x::r) ((0:Nat):Int)=some x from mH rfl),rfl,?_⟩;rw[pK [x] [48]];have e:iR (x::r)= !decide ([x]=[48]):=by
    unfold iR;rw[c,dP c2];show (!decide (x=48))=_;rw[decide_eq_decide.mpr (show x=48↔[x]=[48] by simp)]
   rw[e] at q;exact q H1 s1
 ·have e:iR l=false:=by unfold iR;rw[c];rfl
  rw[e] at q;exact q H1 s1
theorem mF:Dx P w base ZZ.hc 1 (aH8 K):=by
 refine ZZ.hc.dfs N8 (by trivial) ?_;rintro _ _ _ _ s H _ Q E hr⟨m,n,rfl,h0,q⟩;refine⟨_,(dX (eF (iD fU (dZ pR (dZ oO Y0 Y1) eI) eI))),?_⟩;refine⟨(),(),(()),h0.2,(()),rfl,?_⟩;have e:decide (V.int (Builtin.bitAnd (m / 2^n.toNat) 1)=V.int 1)=tb m n.toNat:=by
  rw[←KZ h0.1];exact decide_eq_decide.mpr int_eq
 show Q (.bl (decide (V.int (Builtin.bitAnd (m / 2^n.toNat) 1)=V.int 1))) H;rw[e];exact q
theorem M6:Dx P w base ZZ.gt 1 (QX K):=by
 refine ZZ.gt.dfs Uu (by trivial) ?_;rintro _ _ _ _ s H _ Q E hr⟨a,zs,rfl,hS,hz,q⟩;refine⟨_,(eC (eK 1 eI Uu.nd) (eC (j9 (kf (K:=K) Y0) (gN 2 Uu.nd) (dX (eK 1 (dZ lN Y1 (dZ kT eI Y2)) Uu.nd)) PassesOwn.never) (dX (eF Y1)))),?_⟩;extract_lets;refine⟨(),a,rfl,⟨_,hS⟩,mM (K:=K) (a:=a) (xs:=zs.map V.int) (λi σ H2=>H2=H/\∃u:Option V,σ=[some (.ref a),some (.int (iK (zs.take i))),u]) ⟨rfl,()⟩ (λi σ H2 _ hP=>by rw[hP.1];exact hS) ?_ ?_⟩
 ·rintro i x σ H2 hx ⟨rfl,u,rfl⟩;rw[bN] at hx;cases ez:zs[i]? with
  |none=>rw[ez] at hx;cases hx
  |some z=>
   rw[ez] at hx;obtain rfl:V.int z=x:=bF hx;have h:=hz z (bU ez);have et:iK (zs.take (i+1))=Builtin.bitOr (iK (zs.take i)) (1*2^z.toNat):=by
    rw[bH,ez,←T3];rfl
   exact⟨(),(),(()),⟨h.1,⋯,by decide⟩,(()),rfl,_,by rw[et];rfl⟩
 ·rintro σ H2 ⟨rfl,u,rfl⟩;rw[aY,bL];exact⟨(),q⟩
theorem Q5:Dx P w base ZZ.e0 2 (aoK K):=by
 refine ZZ.e0.dfs ao1 (by trivial) ?_;rintro _ _ _ _ s H _ Q E hr⟨m,rfl,hm,q⟩;refine⟨_,(dX (eF (i9 ["mask"] [0] (oP ZZ.ar (A1 (G3 Y0))) (λ_ _ _ _ _ _=>(ZQ (gY (eD (mF ZZ) hr (A2 Y1 Y0))))) (λ_ _ _ _ _ _=>Y0)))),?_⟩;refine⟨(),rfl,(),rfl,(),⋯,⋯,xq (λi z=>z=(flt (tb m) 0 i).map V.int) (by rw[dI,bQ];omega) aFB ?_ ?_⟩
 ·intro i z D H2 E' F' hi hR hD s2 hz hE hF;subst hR;refine⟨(),(),_,(),⟨hm.1,⋯⟩,(),?_⟩;have e0:(0+(i:Int)).toNat=i:=⋯;show if tb m (0+(i:Int)).toNat=true then _ else _
  rw[e0];by_cases c:tb m i=true
  ·rw[if_pos c];exact⟨(),hE _ _ (Same.refl _) (by rw[uX c,a8];rfl)⟩
  ·rw[if_neg c];exact hF _ (Same.refl _) (by rw[qg (by simpa using c)])
 ·intro D H2 z hR hD s2 hz;subst hR;rw[bQ] at hz;exact q D H2 s2 hz
theorem GU:Dx P w base ZZ.f4 2 (au4 K):=by
 refine ZZ.f4.dfs Su (by trivial) ?_;rintro _ _ _ _ s H _ Q E hr⟨a,b,st,rfl,ha,hb,hs,q⟩;refine⟨_,(dX (eF (eD (M6 ZZ) hr (A1 (jd X5 ZZ.cv PyProof.Rows.boot_list (A1 (jd Cy ZZ.ar boot_range (A3 Y0 (dZ fG Y1 eI) Y2)))))))),?_⟩;obtain⟨n1,n2⟩:=G6 ha.1 hb.2 hs.1;have bd:∀z∈iB a b st,0<=z/\z<=100000:=λz hz=>by
  have:=(B1 hs.1).mp hz;omega
 refine⟨(),(),(()),(),_,_,(),⟨hs.1,⋯⟩,λp hp=>⟨p,a,b+1,st,(Builtin.Range.rangeSize a (b+1) st).toNat,rfl,dY,Qf ha.1 ha.2 hb.1 hb.2 hs.1 hs.2,n2,⋯,λl hl=>⟨l,iB a b st,rfl,SqL.of (by rw[q9,cM];exact dY),bd,?_⟩⟩⟩;exact q _ ((eE hp _).trans (eE hl _))
theorem nO:Dx P w base ZZ.ef 3 (amT K):=by
 refine ZZ.ef.dfs UH (by trivial) ?_;rintro _ _ _ _ s H _ Q E hr⟨l,lo,hi,rfl,hl,q⟩;refine⟨_,(eC (eX (iI (gY (eD (E7 ZZ) hr (A1 Y0)))) (dX (eF eN)) eZ) (eC (eK 3 (jd X3 ZZ.da PyProof.Rows.boot_int (A1 Y0)) UH.nd) (eC (eX (D6 kQ kQ Y1 Y3 Y2) (dX (eF Y3)) eZ) (dX (eF eN))))),?_⟩;extract_lets;refine⟨(),l,rfl,⋯,λH1 s1=>⟨(),?_⟩⟩;by_cases c:iR l=true
 ·rw[c];obtain⟨d1,d2⟩:=Pu c;refine fK ⟨(),l,rfl,d1,d2,⋯,?_⟩;refine⟨(),(),(()),(),?_⟩;show if decide (lo<=dv l)=true then _ else _
  refine il (λc1=>⟨(),(()),(),?_⟩) (λc1=>⟨(),?_⟩)
  ·show if decide (dv l<=hi)=true then _ else _
   refine il (λc2=>?_) (λc2=>?_)
   ·have e:gJ lo hi l=some (dv l):=by unfold gJ;rw[if_pos c,if_pos ⟨c1,c2⟩]
    rw[e] at q;exact⟨(),q H1 s1⟩
   ·have e:gJ lo hi l=none:=by unfold gJ;rw[if_pos c,if_neg λz=>c2 z.2]
    rw[e] at q;exact q H1 s1
  ·have e:gJ lo hi l=none:=by unfold gJ;rw[if_pos c,if_neg λz=>c1 z.1]
   rw[e] at q;exact fK (q H1 s1)
 ·have c':iR l=false:=by simpa using c
  rw[c'];have e:gJ lo hi l=none:=by unfold gJ;rw[if_neg c]
  rw[e] at q;exact fR (q H1 s1)
theorem El:Dx P w base ZZ.f5 4 (La K):=by
 refine ZZ.f5.dfs UJ (by trivial) ?_;rintro _ _ _ _ s H _ Q E hr⟨l,lo,hi,rfl,hl,q⟩;refine⟨_,(eC (eX (eW fU Y0 (eV [42])) (dX (eF (ij (A2 Y1 Y2)))) eZ) (eC (nG 3 ["low","high"] [1,2] (kf (K:=K) (ny Y0 (eV [45]))) (λ_ _ _ _ _ _=>iq) (λ_ _ _ _ _ _=>(eD (nO ZZ) hr (A3 Y0 Y1 Y2))) UJ.nd) (eC (eX (tW (iU (eW kj (fX (kX (K:=K)) ZZ.ao PySem.boot_len (A1 Y3)) eI) (iU (eW (p8 (K:=K)) eN Y3) (jB (eW kj (eO (fV (K:=K)) Y3 eI) (eO (fV (K:=K)) Y3 (lg k9 eI))))))) (dX (eF eN)) eZ) (dX (eF (ij (A2 (eO (fV (K:=K)) Y3 eI) (eO (fV (K:=K)) Y3 (lg k9 eI))))))))),?_⟩
 extract_lets;refine⟨(),rfl,(),?_⟩;rw[pK l [42]];by_cases c:l=[42]
 ·rw[dN c];refine fR ⟨(),(),(zL 2),λp hp=>?_⟩;have e:iP lo hi l=some (lo,hi):=by unfold iP;rw[if_pos c]
  rw[e] at q;exact q _ _ (eE hp _) ⟨p,rfl,dY⟩
 rw[dP c];have hsl:=pO 45 l;have eR:iP lo hi l=l4 ((eU 45 l).map (gJ lo hi)):=by unfold iP;rw[if_neg c]
 rw[eR] at q;refine fK ⟨(),rfl,l,45,rfl,rfl,(by rw[dI];omega),λps hps=>⟨ps,rfl,⟨_,SqL.of dY⟩,kA (xs:=(eU 45 l).map λq=>V.str (Tx q)) (λi z=>z=((eU 45 l).take i).map λq=>oV (gJ lo hi q)) (by rw[aY,dI];omega) rfl (SqL.of dY) ?_ ?_⟩⟩
 ·intro i v z D H2 E' F' hv hR hD s2 hz hE hF;subst hR;rw[bN] at hv;cases ew:(eU 45 l)[i]? with
  |none=>rw[ew] at hv;cases hv
  |some w0=>
   rw[ew] at hv;obtain rfl:V.str (Tx w0)=v:=bF hv;have hw:=n5 45 l w0 (bU ew);exact⟨(),(),(),w0,lo,hi,rfl,⋯,λH3 s3=>hE _ _ s3 (by rw[bH,ew,a8];rfl)⟩
 intro D H2 z hR hD s2 hz;subst hR;rw[aY,bL] at hz;have hz2:H2 D=some (.lst (((eU 45 l).map (gJ lo hi)).map oV)):=by rw[hz,cM];rfl
 have hlen:((eU 45 l).map (gJ lo hi)).length<=600:=by rw[aY];omega
 have hnn:(eU 45 l).map (gJ lo hi)≠[]:=λe=>aH6 45 l (List.map_eq_nil_iff.mp e);generalize (eU 45 l).map (gJ lo hi)=es at hz2 q hlen hnn;have s02:Same H H2:=(eE hps _).trans s2;have hfl:(es.map oV).all kI=true:=aEZ es;refine⟨(),D,(),.inl (SqL.of hz2),(()),(),?_⟩
 match es,hnn with
 |[],h=>exact absurd rfl h
 |[none],_=>
  refine fK ⟨(),D,(),.inl (SqL.of hz2),rfl,hfl,(),fR ?_⟩;exact q _ _ s02 rfl
 |[some a],_=>
  refine fK ⟨(),D,(),.inl (SqL.of hz2),rfl,hfl,(),fK ⟨(),D,_,(()),SqL.of hz2,rfl,(),(),D,_,(()),SqL.of hz2,rfl,(()),(),?_⟩⟩;rw[dP (show ¬a<a by omega)];refine fK ⟨(),D,_,(()),SqL.of hz2,rfl,(),(),D,_,(()),SqL.of hz2,rfl,(zL 2),λp hp=>?_⟩;exact q _ _ (s02.trans (eE hp _)) ⟨p,rfl,dY⟩
 |[none,y],_=>
  refine fK ⟨(),D,(),.inl (SqL.of hz2),rfl,hfl,(),fR ?_⟩;exact q _ _ s02 rfl
 |[some a,none],_=>
  refine fK ⟨(),D,(),.inl (SqL.of hz2),rfl,hfl,(),fR ?_⟩;exact q _ _ s02 rfl
 |[some a,some b],_=>
  refine fK ⟨(),D,(),.inl (SqL.of hz2),rfl,hfl,(),fK ⟨(),D,_,(()),SqL.of hz2,rfl,(),(),D,_,(()),SqL.of hz2,rfl,(()),(),?_⟩⟩;refine il (λc2=>?_) (λc2=>?_)
  ·have e:l4 [some a,some b]=none:=by show (if b<a then none else some (a,b))=none;rw[if_pos c2]
   rw[e] at q;exact q _ _ s02 rfl
  ·have e:l4 [some a,some b]=some (a,b):=by show (if b<a then none else some (a,b))=some (a,b);rw[if_neg c2]
   rw[e] at q;refine⟨(),D,_,(()),SqL.of hz2,rfl,(),(),D,_,(()),SqL.of hz2,rfl,(zL 2),λp hp=>?_⟩;exact q _ _ (s02.trans (eE hp _)) ⟨p,rfl,dY⟩
 |x::y::u::r,_=>
  have e3:decide ((2:Int)<(((x::y::u::r).map oV).length:Nat))=true:=dN (by rw[aY];show (2:Int)<((r.length+1+1+1:Nat):Int);omega);refine km e3 ?_;have e:l4 (x::y::u::r)=none:=by cases x<;>cases y<;>rfl
  rw[e] at q;exact q _ _ s02 rfl
theorem alR:Dx P w base ZZ.du 5 (Yy K):=by
 refine ZZ.du.dfs UK (by trivial) ?_;rintro _ _ _ _ s H _ Q E hr⟨r,st,lo,hi,rfl,hr1,hs1,hb,q⟩;refine⟨_,(eC (eK 4 (eD (El ZZ) hr (A3 Y0 Y2 Y3)) UK.nd) (eC (eK 5 (eD (nO ZZ) hr (A3 Y1 eI (fE (v:=.int 99) ZZ.eb ⟨()⟩))) UK.nd) (eC (eX (tW (iU (eW jA Y4 eN) (jB (eW jA Y5 eN)))) (dX (eF eN)) eZ) (eC (eK 6 (lC (gY (eD (E7 ZZ) hr (A1 Y0))) Y3 (eO (fN (K:=K)) Y4 eI)) UK.nd) (dX (eF (eD (GU ZZ) hr (A3 (eO (fN (K:=K)) Y4 eI) Y6 Y5)))))))),?_⟩
 extract_lets;refine⟨(),(),(),r,lo,hi,rfl,⋯,λrv H1 s1 hrv=>?_⟩;refine⟨(),st,1,99,rfl,⋯,λH2 s2=>?_⟩;cases er:iP lo hi r with
 |none=>
  rw[er] at hrv;have hrv:rv=.non:=hrv;subst hrv;have e:j3 lo hi r st=none:=by unfold j3;rw[er]
  rw[e] at q;exact⟨(),rfl,(),fR (q H2 (s1.trans s2))⟩
 |some ab=>
  obtain⟨a,b⟩:=ab;rw[er] at hrv;obtain⟨p,rfl,hp⟩:=hrv;have bd:=I9 hb.2.1 er;refine⟨(),rfl,(),iJ rfl ⟨(),rfl,(),?_⟩⟩;cases es:gJ 1 99 st with
  |none=>
   have e:j3 lo hi r st=none:=by unfold j3;rw[er,es]
   rw[e] at q;exact km rfl (q H2 (s1.trans s2))
  |some sv=>
   have bs:=Ib es;have hp2:=s2 _ _ hp;refine iJ rfl ⟨(),r,rfl,⋯,λH3 s3=>⟨(),?_⟩⟩;have hp3:=s3 _ _ hp2;refine G4 (λc=>?_) (λc=>?_)
   ·have e:j3 lo hi r st=some (jC a hi sv):=by unfold j3;rw[er,es];show some (jC a (if iR r=true then hi else b) sv)=_;rw[if_pos c]
    rw[e] at q;refine⟨(),(),p,_,(()),SqT.of hp3,rfl,(),(),a,hi,sv,rfl,⟨⋯,⋯⟩,⟨⋯,⋯⟩,⟨⋯,⋯⟩,λH4 s4=>?_⟩;exact q H4 (s1.trans (s2.trans (s3.trans s4)))
   ·have e:j3 lo hi r st=some (jC a b sv):=by unfold j3;rw[er,es];show some (jC a (if iR r=true then hi else b) sv)=_;rw[if_neg (by rw[c];exact bG)]
    rw[e] at q;refine⟨(),p,_,(()),SqT.of hp3,rfl,(),p,_,(()),SqT.of hp3,rfl,(),(),a,b,sv,rfl,⟨⋯,⋯⟩,⟨⋯,⋯⟩,⟨⋯,⋯⟩,λH4 s4=>?_⟩;exact q H4 (s1.trans (s2.trans (s3.trans s4)))
theorem Ks:Dx P w base ZZ.fg 6 (MM K):=by
 refine ZZ.fg.dfs UF (by trivial) ?_;rintro _ _ _ _ s H _ Q E hr⟨l,lo,hi,rfl,hl,hb,q⟩;refine⟨_,(eC (eK 3 (ny Y0 (eV [47])) UF.nd) (eC (eX (eW fU (fX (kX (K:=K)) ZZ.ao PySem.boot_len (A1 Y3)) eI) (dX (eF (eD (alR ZZ) hr (aC (eO (fV (K:=K)) Y3 eI) (A3 (eO (fV (K:=K)) Y3 eI) Y1 Y2))))) eZ) (eC (eK 4 (eD (El ZZ) hr (A3 Y0 Y1 Y2)) UF.nd) (eC (eX (eW jA Y4 eN) (dX (eF eN)) eZ) (dX (eF (eD (GU ZZ) hr (A3 (eO (fN (K:=K)) Y4 eI) (eO (fN (K:=K)) Y4 eI) eI)))))))),?_⟩
 extract_lets;have hsl:=pO 47 l;have hml:=n5 47 l;refine⟨(),rfl,l,47,rfl,rfl,(by rw[dI];omega),λps hps=>?_⟩;have s0:=eE hps (.lst ((eU 47 l).map λq=>V.str (Tx q)));refine⟨(),ps,(),.inl (SqL.of dY),rfl,(),?_⟩;have two:(∃r s,eU 47 l=[r,s])∨(∀r s,eU 47 l≠[r,s]):=by
  by_cases z:∃r s,eU 47 l=[r,s]
  ·exact .inl z
  ·exact .inr λr s e=>z ⟨r,s,e⟩
 rcases two with ⟨r,s,e2⟩ | hno
 ·have e:gH lo hi l=j3 lo hi r s:=by unfold gH;rw[e2]
  rw[e] at q;have h1:=hml r (by rw[e2];simp);have h2:=hml s (by rw[e2];simp);rw[e2];refine km rfl ⟨(),ps,_,(()),SqL.of dY,rfl,(),ps,_,(()),SqL.of dY,rfl,(),(),r,s,lo,hi,rfl,⋯,⋯,hb,λH1 s1=>?_⟩;exact q H1 ((eE hps _).trans s1)
 ·have hlen:¬(eU 47 l).length=2:=λe=>by
   match h:eU 47 l,e with
   |[r,s],_=>exact hno r s h
  have e:gH lo hi l=match iP lo hi l with | some (a,b)=>some (jC a b 1) | none=>none:=by
   unfold gH;split
   ·rename_i r s h;exact absurd h (hno r s)
   ·rfl
  refine iJ (dP λz=>hlen (by have z:=V.int.inj z;rw[aY] at z;omega)) ?_;refine⟨(),(),(),l,lo,hi,rfl,⋯,λrv H1 s1 hrv=>?_⟩;cases er:iP lo hi l with
  |none=>
   rw[er] at hrv e;have hrv:rv=.non:=hrv;subst hrv;rw[e] at q;exact⟨(),rfl,(),fR (q H1 (s0.trans s1))⟩
  |some ab=>
   obtain⟨a,b⟩:=ab;rw[er] at hrv e;obtain⟨p,rfl,hp⟩:=hrv;have bd:=I9 hb.2.1 er;have e:gH lo hi l=some (jC a b 1):=e;rw[e] at q;refine⟨(),rfl,(),iJ rfl ⟨(),p,_,(()),SqT.of hp,rfl,(),p,_,(()),SqT.of hp,rfl,a,b,1,rfl,⟨⋯,⋯⟩,⟨⋯,⋯⟩,⟨by decide,by decide⟩,λH4 s4=>?_⟩⟩;exact q H4 (s0.trans (s1.trans s4))
theorem Pm:Dx P w base ZZ.e1 7 (ZG K):=by
 refine ZZ.e1.dfs UE (by trivial) ?_;rintro _ _ _ _ s H _ Q E hr⟨l,lo,hi,rfl,hl,hb,⟨hk,hok⟩,q⟩;refine⟨_,(eC (eX (tW (iU (iI (gY (fX oh ZZ.aa PyProof.Rows.boot_isinstance (A2 Y0 (kU ZZ.aj PyProof.Rows.boot_str))))) (jB (eW kj (fX yd ZZ.ao PySem.boot_len (A1 Y0)) (fE (v:=.int 300) ZZ.bu ⟨()⟩))))) (dX jL) eZ) (eC (eK 3 (ny Y0 (eV [44])) UE.nd) (eC (eK 4 eI UE.nd) (eC (j9 (iE ZZ.az (lV (pJ (K:=K)) Y3 mr (ku (fE (v:=.int 40) ZZ.av ⟨()⟩)))) (oF (K:=K) (jE (gN 5 UE.nd) (jE (gN 6 UE.nd) mK))) (eC (eK 7 (eD (Ks ZZ) hr (A3 Y6 Y1 Y2)) UE.nd) (eC (eX (eW jA Y7 eN) (dX jL) eZ) (dX (eK 4 (dZ lN Y4 Y7) UE.nd)))) PassesOwn.never) (eC (eX (eW kj (fX (kX (K:=K)) ZZ.ao PySem.boot_len (A1 Y3)) (fE (v:=.int 40) ZZ.av ⟨()⟩)) (dX jL) eZ) (dX (eF Y4))))))),?_⟩
 extract_lets;have hml:=n5 44 l;refine⟨(),_,.str,.str,rfl,(by decide),rfl,(),iJ rfl ⟨(),l,rfl,(by rw[dI];omega),(()),(),?_⟩⟩;rw[dP (show ¬(300:Int)<((l.length:Nat):Int) by omega)];refine fK ⟨(),rfl,l,44,rfl,rfl,(by rw[dI];omega),λps hps=>?_⟩;have s0:=eE hps (.lst ((eU 44 l).map λq=>V.str (Tx q)));refine⟨(),(),ps,(),SqL.of dY,λpc hpc=>?_⟩;have ecut:lZ ((eU 44 l).map λq=>V.str (Tx q)) none (some 40)=(eU 44 l).map λq=>V.str (Tx q):=Ew (by rw[aY];exact hk)
 rw[ecut];have s1:=eE hpc (.lst ((eU 44 l).map λq=>V.str (Tx q)));refine⟨pc,rfl,⟨_,SqL.of dY⟩,uy (K:=K) (a:=pc) (xs:=(eU 44 l).map λq=>V.str (Tx q)) (λi σ H2=>∃(u1 u2 u3:Option V),σ=[some (.str (Tx l)),some (.int lo),some (.int hi),some (.ref ps),some (.int (gL ((lb lo hi l).take i))),u1,u2,u3]/\Same (upd (upd H ps (.lst ((eU 44 l).map λq=>V.str (Tx q)))) pc (.lst ((eU 44 l).map λq=>V.str (Tx q)))) H2) ⟨_,_,(),Same.refl _⟩ (λi σ H2 _ ⟨_,_,_,_,s2⟩=>SqL.of (s2 _ _ dY)) ?_ ?_⟩
 ·rintro i x σ H2 T hx ⟨u1,u2,u3,rfl,s2⟩ hT;rw[bN] at hx;cases ew:(eU 44 l)[i]? with
  |none=>rw[ew] at hx;cases hx
  |some w0=>
   rw[ew] at hx;obtain rfl:V.str (Tx w0)=x:=bF hx;have hw:=hml w0 (bU ew);obtain⟨m,em⟩:=cW.mp (hok w0 (bU ew));refine⟨T,(),SqT.of dY,rfl,_,(),(()),?_⟩;refine⟨(),(),(),w0,lo,hi,rfl,⋯,hb,λH3 s3=>?_⟩;rw[em];refine⟨(),rfl,(),iJ rfl ⟨(),(),(()),?_⟩⟩;have et:gL ((lb lo hi l).take (i+1))=Builtin.bitOr (gL ((lb lo hi l).take i)) m:=by
    rw[←pz,bH];unfold lb;rw[bN,ew];show gL (_++[(gH lo hi w0).getD 0])=_;rw[em];rfl
   exact⟨_,_,_,by rw[et];rfl,s2.trans ((eE hT _).trans s3)⟩
 ·rintro σ H2 ⟨u1,u2,u3,rfl,s2⟩;refine⟨(),ps,(),.inl (SqL.of (s2 _ _ (s1 _ _ dY))),(()),(),?_⟩;rw[dP (show ¬(40:Int)<((((eU 44 l).map λq=>V.str (Tx q)).length:Nat):Int) by rw[aY];omega)];refine fK ⟨(),?_⟩;rw[aY,show (eU 44 l).length=(lb lo hi l).length by unfold lb;rw[aY],bL];exact q H2 (s0.trans (s1.trans s2))
theorem HJ:Dx P w base ZZ.e2 1 (YE K):=by
 refine ZZ.e2.dfs PH (by trivial) ?_;rintro f _ _ _ s H _ Q E hr⟨d,f,rfl,q⟩;refine⟨_,(dX (eF (dZ ig (dZ gW (dZ fG Y1 Y0) eI) eI))),?_⟩;exact⟨(),(),(()),(()),(()),(by show (0:Int)<7;decide),q⟩
theorem um:Dx P w base ZZ.f6 1 (RU K):=by
 refine ZZ.f6.dfs Lp (by trivial) ?_;rintro _ _ _ _ s H _ Q E hr⟨l,rfl,hl,q⟩;refine⟨_,(dX (eF (dZ gW (dZ kT eI Y0) eI))),?_⟩;exact⟨(),(()),⟨⋯,⋯,by decide⟩,(()),q⟩
theorem E3:Dx P w base ZZ.dv 2 (alN K):=by
 refine ZZ.dv.dfs Uy (by trivial) ?_;rintro _ _ _ _ s H _ Q E hr⟨d,l,fi,rfl,q⟩;refine⟨_,(eC (eK 3 (eD (HJ ZZ) hr (A2 Y0 Y2)) Uy.nd) (eC (eX (eW fU Y3 (fE (v:=.int 6) ZZ.fy ⟨()⟩)) (dX (eF (lC (eW kj Y0 eI) (dZ gW Y0 eI) eI))) eZ) (eC (eX (eW fU Y3 (fE (v:=.int 0) ZZ.c6 ⟨()⟩)) (dX (eF (lC (eW qM Y0 Y1) (dZ fG Y0 eI) (dZ gW Y1 eI)))) eZ) (dX (eF Y0))))),?_⟩;extract_lets
 refine⟨(),(),_,(),?_⟩;refine⟨(),rfl,(),gX (λc=>?_) (λc=>?_)⟩
 ·refine⟨(),(()),(),il (λc2=>⟨(),(()),?_⟩) (λc2=>?_)⟩
  ·have e:nw d l fi=d-1:=by unfold nw;rw[if_pos c,if_pos c2]
   rw[e] at q;exact q
  ·have e:nw d l fi=3:=by unfold nw;rw[if_pos c,if_neg c2]
   rw[e] at q;exact q
 ·refine⟨(),rfl,(),gX (λc1=>?_) (λc1=>?_)⟩
  ·refine⟨(),(),(()),(),il (λc2=>⟨(),(()),?_⟩) (λc2=>⟨(),(()),?_⟩)⟩
   ·have e:nw d l fi=d+1:=by unfold nw;rw[if_neg c,if_pos c1,if_pos c2]
    rw[e] at q;exact q
   ·have e:nw d l fi=l-2:=by unfold nw;rw[if_neg c,if_pos c1,if_neg c2]
    rw[e] at q;exact q
  ·have e:nw d l fi=d:=by unfold nw;rw[if_neg c,if_neg c1]
   rw[e] at q;exact⟨(),q⟩
theorem N9:Dx P w base ZZ.fh 1 (arP K):=by
 refine ZZ.fh.dfs YI (by trivial) ?_;rintro _ _ _ _ s H _ Q E hr⟨wd,fi,rfl,q⟩;refine⟨_,(dX (eF (dZ fG eI (dZ ig (dZ gW Y0 Y1) eI)))),?_⟩;exact⟨(),(),(()),(()),(by show (0:Int)<7;decide),(()),q⟩
theorem SK:Dm P w mg base ZZ.fi 1 (Ye K aJ):=by
 refine ZZ.fi.dfs N2 (by trivial) ?_;rintro _ _ _ _ s H _ Q E hr⟨p,l,fi,rfl,q⟩;refine⟨_,(dX (eF eI)),?_⟩;exact q
theorem Le:Dm P w mg base ZZ.cx 1 (Ow K aD):=by
 refine ZZ.cx.dfs YB (by trivial) ?_;rintro _ _ _ _ s H _ Q E hr⟨p,dx,m,rfl,hp,q⟩;refine⟨_,(dX (iY Y0 Y1)),?_⟩;exact⟨(),(),p,aD,dx,[],rfl,hp,ZZ.a3.cl,ZZ.be,(by show 0<1000;decide),q⟩
theorem PB:Dm P w mg base ZZ.dw 2 (Rn K aD):=by
 refine ZZ.dw.dfs RA (by trivial) ?_;rintro _ _ _ _ s H _ Q E hr⟨p,dx,m,l,fi,rfl,hp,hl,q⟩;refine⟨_,(dX (eF (dZ pR (hZ (K:=K) Y0) (eD (um ZZ) hr (A1 Y1))))),?_⟩;exact⟨(),p,aD,dx,_,(),hp,ZZ.a3.cl,ZZ.be,rfl,(),(),hl.1,(()),q⟩
theorem EG:DfMD P w K mg base aF "__init__" 1 ["self","back"] (ajO K aF) [.int 0]:=by
 refine ZZ.de.dfs YV (by trivial) ?_;rintro _ _ _ _ s H _ Q E hr⟨p,dx,m,rfl,hp,q⟩;refine⟨_,(dX (iY Y0 Y1)),?_⟩;exact⟨(),(),p,aF,dx,[],rfl,hp,ZZ.a4.cl,ZZ.a7,(by show 0<1000;decide),q⟩
theorem YS:Dm P w mg base ZZ.fj 1 (arY K aF):=by
 refine ZZ.fj.dfs ar3 (by trivial) ?_;rintro _ _ _ _ s H _ Q E hr⟨p,dx,b,l,fi,rfl,hp,hb,hl,q⟩;refine⟨_,(eC (eX (eW AE (hZ (K:=K) Y0) Y1) (dX (eF eI)) eZ) (dX (eF (dZ kT eI (dZ gW Y1 (hZ (K:=K) Y0)))))),?_⟩;extract_lets;refine⟨(),p,aF,dx,_,(),hp,ZZ.a4.cl,ZZ.a7,rfl,(),(()),(),il (λc=>?_) (λc=>?_)⟩
 ·have e:mh b l=0:=by unfold mh;rw[if_pos c]
  rw[e] at q;exact q
 ·have e:mh b l=1*2^(l-b).toNat:=by unfold mh;rw[if_neg c]
  rw[e] at q;have:=hl.1.2;exact⟨(),(),p,aF,dx,_,(),hp,ZZ.a4.cl,ZZ.a7,rfl,(()),(()),⟨⋯,⋯,by decide⟩,q⟩
theorem Vj:Dm P w mg base ZZ.df 1 (ai3 K aG):=by
 refine ZZ.df.dfs ajR (by trivial) ?_;rintro _ _ _ _ s H _ Q E hr⟨p,dx,m,rfl,hp,q⟩;refine⟨_,(dX (iY Y0 Y1)),?_⟩;exact⟨(),(),p,aG,dx,[],rfl,hp,ZZ.a8.cl,ZZ.a9,(by show 0<1000;decide),q⟩
theorem ZY:Dm P w mg base ZZ.fk 3 (Xj K aG):=by
 refine ZZ.fk.dfs VZ (by trivial) ?_;rintro _ _ _ _ s H _ Q E hr⟨p,dx,d,l,fi,rfl,hp,ok,q⟩;refine⟨_,(eC (eX (eW kj (hZ (K:=K) Y0) Y1) (dX (eF eI)) eZ) (dX (eF (dZ kT eI (eD (E3 ZZ) hr (A3 (hZ (K:=K) Y0) Y1 Y2)))))),?_⟩;extract_lets;refine⟨(),p,aG,dx,_,(),hp,ZZ.a8.cl,ZZ.a9,rfl,(),(()),(),il (λc=>?_) (λc=>?_)⟩
 ·have e:mi d l fi=0:=by unfold mi;rw[if_pos c]
  rw[e] at q;exact q
 ·have e:mi d l fi=1*2^(nw d l fi).toNat:=by unfold mi;rw[if_neg c]
  rw[e] at q;have hn:=GC ok ⋯;exact⟨(),p,aG,dx,_,(),hp,ZZ.a8.cl,ZZ.a9,rfl,(),(),_,_,(),(()),⟨⋯,⋯,by decide⟩,q⟩
theorem LK:Dm P w mg base ZZ.dg 3 (Sa K aI):=by
 refine ZZ.dg.dfs MU (by trivial) ?_;rintro _ _ _ _ s H _ Q E hr⟨p,dx,l,fi,rfl,hp,ok,q⟩;refine⟨_,(dX (eF (dZ kT eI (eD (E3 ZZ) hr (A3 Y1 Y1 Y2))))),?_⟩;have hn:=GC ok (bB _);exact⟨(),(),(),_,_,(),(()),⟨⋯,⋯,by decide⟩,q⟩
theorem LL:Dm P w mg base ZZ.cp 1 (S8 K aE):=by
 refine ZZ.cp.dfs SI (by trivial) ?_;rintro _ _ _ _ s H _ Q E hr⟨p,dx,m,rfl,hp,q⟩;refine⟨_,(dX (iY Y0 Y1)),?_⟩;exact⟨(),(),p,aE,dx,[],rfl,hp,ZZ.a0.cl,ZZ.ba,(by show 0<1000;decide),q⟩
theorem MQ:Dm P w mg base ZZ.dh 2 (MI K aE):=by
 refine ZZ.dh.dfs U4 (by trivial) ?_;rintro _ _ _ _ s H _ Q E hr⟨p,dx,m,l,fi,rfl,hp,hm,⟨hl,hf⟩,q⟩;refine⟨_,(eC (eK 3 eI U4.nd) (eC (j9 (oP ZZ.ar (A1 eI)) (gN 4 U4.nd) (dX (eK 3 (dZ lN Y3 (dZ kT (hZ (K:=K) Y0) (dZ iW eI Y4))) U4.nd)) PassesOwn.never) (dX (eF (dZ pR (dZ kT (dZ oO Y3 Y2) eI) (eD (um ZZ) hr (A1 Y1))))))),?_⟩;extract_lets;have hb:=Ta m (GD hm.1 hm.2);refine⟨(),by decide,by decide,G8 (λi σ H2=>H2=H/\∃u:Option V,σ=[some (.ref p),some (.int l),some (.int fi),some (.int (oW m i)),u]) ⟨rfl,()⟩ ?_ ?_⟩
 ·rintro i σ H2 hi ⟨rfl,u,rfl⟩;have hi':i<6:=hi;exact⟨(),(),p,aE,dx,_,(),hp,ZZ.a0.cl,ZZ.ba,rfl,(),(()),.inl ⟨by decide,by decide⟩,(()),⟨⋯,⋯,(by show m.natAbs<2^64;omega)⟩,(()),rfl,()⟩
 ·rintro σ H2 ⟨rfl,u,rfl⟩;exact⟨(),(),(()),hf.1,(()),⟨by decide,by decide,hb.2 fi (mY hf.1 hf.2)⟩,(),(),hl,(()),q⟩
theorem Pd:Dm P w mg base ZZ.dx 1 (V4 K aA):=by
 refine ZZ.dx.dfs Om (by trivial) ?_;rintro _ _ _ _ s H _ Q E hr⟨p,dx,wd,m,rfl,hp,q⟩;refine⟨_,(eC (iY Y0 Y1) (dX (iY Y0 Y2))),?_⟩;extract_lets;exact⟨(),(),p,aA,dx,[],rfl,hp,ZZ.bb.cl,ZZ.bp,(by show 0<1000;decide),(),(),p,aA,dx,(),dY,ZZ.bb.cl,ZZ.ch,(by show 1<1000;decide),q⟩
theorem Pe:Dm P w mg base ZZ.f7 2 (OT K aA):=by
 refine ZZ.f7.dfs U0 (by trivial) ?_;rintro _ _ _ _ s H _ Q E hr⟨p,dx,wd,m,l,fi,rfl,hp,hw,hm,⟨hl,hf⟩,q⟩;refine⟨_,(eC (eK 3 (dZ fG (eD (N9 ZZ) hr (A2 (hZ (K:=K) Y0) Y2)) (dZ iW eI (dZ gW (hZ (K:=K) Y0) eI))) U0.nd) (eC (eX (eW kj Y3 Y1) (dX (eF eI)) eZ) (dX (eF (dZ kT eI Y3))))),?_⟩;extract_lets;have hn:=Oa l (rM hl.1 hl.2) fi (mY hf.1 hf.2) wd (mY hw.1 hw.2) m (yc hm.1 hm.2)
 refine⟨(),p,aA,dx,_,(),hp,ZZ.bb.cl,ZZ.bp,LU _ _,(),_,(),(),p,aA,dx,_,(),hp,ZZ.bb.cl,ZZ.ch,M4 _ _,(()),(()),.inl ⟨by decide,by decide⟩,(()),?_⟩;refine⟨(),(),(()),(),il (λc=>?_) (λc=>?_)⟩
 ·have e:lc wd m l fi=0:=by unfold lc;rw[if_pos (show l<mS wd m fi from c)]
  rw[e] at q;exact q
 ·have e:lc wd m l fi=1*2^(mS wd m fi).toNat:=by unfold lc;rw[if_neg (show ¬l<mS wd m fi from c)]
  rw[e] at q;exact⟨(),(()),⟨hn.2.2.1,Int.le_trans hn.2.2.2 (by decide),by decide⟩,q⟩
theorem YQ:Dm P w mg base ZZ.cy 1 (L8 K aH):=by
 refine ZZ.cy.dfs Mu (by trivial) ?_;rintro _ _ _ _ s H _ Q E hr⟨p,dx,m,rfl,hp,q⟩;refine⟨_,(dX (iY Y0 Y1)),?_⟩;exact⟨(),(),p,aH,dx,[],rfl,hp,ZZ.a5.cl,ZZ.a6,(by show 0<1000;decide),q⟩
theorem Wr:Dm P w mg base ZZ.dy 2 (Lq K aH):=by
 refine ZZ.dy.dfs alE (by trivial) ?_;rintro _ _ _ _ s H _ Q E hr⟨p,dx,wd,l,fi,rfl,hp,hw,⟨hl,hf⟩,q⟩;refine⟨_,(dX (eF (dZ kT eI (dZ gW Y1 (dZ ig (dZ gW (eD (HJ ZZ) hr (A2 Y1 Y2)) (hZ (K:=K) Y0)) eI))))),?_⟩;have hn:=L5 l (rM hl.1 hl.2) fi (mY hf.1 hf.2) wd (mY hw.1 hw.2);exact⟨(),(),(),_,(),(),p,aH,dx,_,(),hp,ZZ.a5.cl,ZZ.a6,rfl,(()),(()),(by show (0:Int)<7;decide),(()),(()),⟨hn.2.1,Int.le_trans hn.2.2 (by decide),by decide⟩,q⟩
theorem Sk:Dx P w base ZZ.f8 4 (NN K aD aF aG aI aE aA aH aJ):=by
 refine ZZ.f8.dfs Uk (by trivial) ?_;rintro _ _ _ _ s H _ Q E hr⟨b,ps,ks,l,fi,rfl,hB,fM,oM,hlf,q⟩;refine⟨_,(eC (eK 3 eI Uk.nd) (eC (j9 (kf (K:=K) Y0) (gN 4 Uk.nd) (dX (eK 3 (dZ lN Y3 (kP (jm ZZ.a3.cl (PB ZZ) hr Y4 (A2 Y1 Y2)) (kP (jm ZZ.a4.cl (YS ZZ) hr Y4 (A2 Y1 Y2)) (kP (jm ZZ.a8.cl (ZY ZZ) hr Y4 (A2 Y1 Y2)) (kP (jm ZZ.cg.cl (LK ZZ) hr Y4 (A2 Y1 Y2)) (kP (jm ZZ.a0.cl (MQ ZZ) hr Y4 (A2 Y1 Y2)) (kP (jm ZZ.bb.cl (Pe ZZ) hr Y4 (A2 Y1 Y2)) (kP (jm ZZ.a5.cl (Wr ZZ) hr Y4 (A2 Y1 Y2)) (jm ZZ.g4.cl (SK ZZ) hr Y4 (A2 Y1 Y2)))))))))) Uk.nd)) PassesOwn.never) (dX (eF Y3)))),?_⟩
 extract_lets;refine⟨(),b,rfl,⟨_,hB⟩,mM (K:=K) (a:=b) (xs:=ps.map V.ref) (λi σ H2=>H2=H/\∃u4:Option V,σ=[some (.ref b),some (.int l),some (.int fi),some (.int (lK (ks.take i) l fi)),u4]) ⟨rfl,()⟩ (λi σ H2 _ hP=>by rw[hP.1];exact hB) ?turn ?done⟩
 case done=>
  rintro σ H2 ⟨rfl,u4,rfl⟩;have el:(ps.map V.ref).length=ks.length:=by rw[aY];exact Paired.length fM
  rw[el,bL];exact⟨(),q⟩
 case turn=>
  rintro i x σ H2 hx ⟨rfl,u4,rfl⟩;rw[bN] at hx;cases ez:ps[i]? with
  |none=>rw[ez] at hx;cases hx
  |some p=>
   rw[ez] at hx;obtain rfl:V.ref p=x:=bF hx;obtain⟨k,ek,hk⟩:=Ft.get fM ez;have hok:=oM k (bU ek);have et:lK (ks.take (i+1)) l fi=Builtin.bitOr (lK (ks.take i) l fi) (k.due l fi):=by
    rw[bH,ek];exact W6 _ _ _ _
   rw[et];cases k with
   |num m=>
    obtain⟨dx,hp⟩:=hk;exact⟨(),(.inl ⟨(),p,dx,(),hp,rfl,(),(),p,dx,m,l,fi,rfl,hp,hlf,(()),rfl,()⟩)⟩
   |lst b=>
    obtain⟨dx,hp⟩:=hk;exact⟨(),(.inr (.inl ⟨(),p,dx,(),hp,rfl,(),(),p,dx,b,l,fi,rfl,hp,hok,hlf,(()),rfl,()⟩))⟩
   |nea d=>
    obtain⟨dx,hp⟩:=hk;exact⟨(),(.inr (.inr (.inl ⟨(),p,dx,(),hp,rfl,(),(),p,dx,d,l,fi,rfl,hp,⟨hok,hlf⟩,(()),rfl,()⟩)))⟩
   |wrk=>
    obtain⟨dx,hp⟩:=hk;exact⟨(),(.inr (.inr (.inr (.inl ⟨(),p,dx,(),hp,rfl,(),(),p,dx,l,fi,rfl,hp,hlf.last,(()),rfl,()⟩))))⟩
   |wkd m=>
    obtain⟨dx,hp⟩:=hk;exact⟨(),(.inr (.inr (.inr (.inr (.inl ⟨(),p,dx,(),hp,rfl,(),(),p,dx,m,l,fi,rfl,hp,hok,hlf,(()),rfl,()⟩)))))⟩
   |nth w m=>
    obtain⟨dx,hp⟩:=hk;exact⟨(),(.inr (.inr (.inr (.inr (.inr (.inl ⟨(),p,dx,(),hp,aEJ _ _,(),(),p,dx,w,m,l,fi,rfl,hp,hok.1,hok.2,hlf,(()),rfl,()⟩))))))⟩
   |one w=>
    obtain⟨dx,hp⟩:=hk;exact⟨(),(.inr (.inr (.inr (.inr (.inr (.inr (.inl ⟨(),p,dx,(),hp,rfl,(),(),p,dx,w,l,fi,rfl,hp,hok,hlf,(()),rfl,()⟩)))))))⟩
   |nil=>
    obtain⟨dx,hp⟩:=hk;exact⟨(),(.inr (.inr (.inr (.inr (.inr (.inr (.inr ⟨(),p,dx,(),hp,rfl,(),(),p,l,fi,rfl,(()),rfl,()⟩)))))))⟩
theorem YT:Dx P w base ZZ.di 4 (ajU K aD aF aG aI aE aA aH aJ):=by
 refine ZZ.di.dfs UC (by trivial) ?_;rintro _ _ _ _ s H _ Q E hr⟨t,rfl,hl,q⟩;refine⟨_,(eC (eX (eW fU Y0 (eV [76])) (dX (eF (DK ZZ.a4 (EG ZZ) hr))) eZ) (eC (eX (eW fU Y0 (eV [76,87])) (dX (eF (Eg ZZ.cg ZZ.ft))) eZ) (eC (eX (gY (ui Y0 (eV [76,45]))) (eC (eK 1 (eD (nO ZZ) hr (A3 (lV Ai Y0 (ku eI) mr) eI (fE (v:=.int 30) ZZ.fd ⟨()⟩))) UC.nd) (dX (eF (lC (eW jA Y1 eN) eN (j2 ZZ.a4 (EG ZZ).dfm hr (A1 Y1)))))) eZ) (eC (eX (gY (Ik Y0 (eV [87]))) (eC (eK 2 (eD (nO ZZ) hr (A3 (lV Ai Y0 mr (ku (lg k9 eI))) eI (fE (v:=.int 31) ZZ.ci ⟨()⟩))) UC.nd) (dX (eF (lC (eW jA Y2 eN) eN (j2 ZZ.a8 (Vj ZZ) hr (A1 Y2)))))) eZ) (dX (eF eN)))))),?_⟩
 extract_lets;have hz:t.length<=sizeLine:=by rw[dI];omega
 have hc1:=qj t (some 2) none;have hc2:=qj t none (some (-1));refine⟨(),rfl,(),lI (λc=>?a0) (λc1=>⟨(),rfl,(),lI (λc=>?a1) (λc2=>⟨(),rfl,t,[76,45],rfl,rfl,(),il (λc=>?a2) (λc3=>⟨(),rfl,t,87,rfl,rfl,(),il (λc=>?a3) (λc4=>?a4)⟩)⟩)⟩)⟩
 case a0=>
  have e:jZ t=some (.lst 0):=by unfold jZ;rw[if_pos c]
  rw[e] at q;exact λxo dx nx ndx nex=>⟨xo,dx,0,rfl,dY,rfl,q _ _ (mN nx ndx) ⟨xo,rfl,dx,dY⟩⟩
 case a1=>
  have e:jZ t=some .wrk:=by unfold jZ;rw[if_neg c1,if_pos c]
  rw[e] at q;exact λxo dx nx ndx nex=>q _ _ (ky nx ndx) ⟨xo,rfl,dx,dY⟩
 case a2=>
  have e:jZ t=(gJ 1 30 (jz t (some 2) none)).map Mk.lst:=by unfold jZ;rw[if_neg c1,if_neg c2,if_pos c]
  rw[e] at q;refine⟨(),(),t,rfl,hz,_,1,30,rfl,⋯,λH1 s1=>?_⟩;cases en:gJ 1 30 (jz t (some 2) none) with
  |none=>
   rw[en] at q;exact⟨(),rfl,(),km rfl (q _ _ s1 rfl)⟩
  |some b=>
   rw[en] at q;exact⟨(),rfl,(),iJ rfl ⟨(),λxo dx nx ndx nex=>⟨xo,dx,(),dY,rfl,q _ _ (s1.trans (mN nx ndx)) ⟨xo,rfl,dx,dY⟩⟩⟩⟩
 case a3=>
  have e:jZ t=(gJ 1 31 (jz t none (some (-1)))).map Mk.nea:=by unfold jZ;rw[if_neg c1,if_neg c2,if_neg c3,if_pos c]
  rw[e] at q;refine⟨(),(),(),t,rfl,hz,_,1,31,rfl,⋯,λH1 s1=>?_⟩;cases en:gJ 1 31 (jz t none (some (-1))) with
  |none=>
   rw[en] at q;exact⟨(),rfl,(),km rfl (q _ _ s1 rfl)⟩
  |some b=>
   rw[en] at q;exact⟨(),rfl,(),iJ rfl ⟨(),λxo dx nx ndx nex=>⟨xo,dx,(),dY,rfl,q _ _ (s1.trans (mN nx ndx)) ⟨xo,rfl,dx,dY⟩⟩⟩⟩
 case a4=>
  have e:jZ t=none:=by unfold jZ;rw[if_neg c1,if_neg c2,if_neg c3,if_neg c4]
  rw[e] at q;exact q _ _ (Same.refl H) rfl
theorem IJ:Dx P w base ZZ.dz 4 (alC K):=by
 refine ZZ.dz.dfs UL (by trivial) ?_;rintro _ _ _ _ s H _ Q E hr⟨t,rfl,hl,q⟩;refine⟨_,(eC (eK 1 (eD (nO ZZ) hr (A3 Y0 eI (fE (v:=.int 7) ZZ.aw ⟨()⟩))) UL.nd) (dX (eF (lC (eW fU Y1 (fE (v:=.int 7) ZZ.aw ⟨()⟩)) (fE (v:=.int 0) ZZ.c6 ⟨()⟩) Y1)))),?_⟩;extract_lets;refine⟨(),t,0,7,rfl,⋯,λH1 s1=>?_⟩;cases en:gJ 0 7 t with
 |none=>
  have e:kD t=none:=by unfold kD;rw[en];rfl
  rw[e] at q;exact⟨(),rfl,(),iJ (dP λz=>nomatch z) ⟨(),q _ s1⟩⟩
 |some n=>
  have e:kD t=some (if n=7 then 0 else n):=by unfold kD;rw[en];rfl
  rw[e] at q;refine⟨(),rfl,(),gX (λc=>?_) (λc=>⟨(),?_⟩)⟩
  ·rw[if_pos c] at q;exact q _ s1
  ·rw[if_neg c] at q;exact q _ s1
theorem Ru:Dx P w base ZZ.cq 5 (Ls K aD aF aG aI aE aA aH aJ):=by
 refine ZZ.cq.dfs UM (by trivial) ?_;rintro _ _ _ _ s H _ Q E hr⟨t,rfl,hl,q⟩;refine⟨_,(eC (eX (gY (Ik Y0 (eV [76]))) (eC (eK 1 (eD (IJ ZZ) hr (A1 (lV Ai Y0 mr (ku (lg k9 eI))))) UM.nd) (dX (eF (lC (eW jA Y1 eN) eN (j2 ZZ.a5 (YQ ZZ) hr (A1 Y1)))))) eZ) (eC (eK 2 (ny Y0 (eV [35])) UM.nd) (eC (eX (eW l6 (fX (kX (K:=K)) ZZ.ao PySem.boot_len (A1 Y2)) eI) (dX (eF eN)) eZ) (eC (eK 1 (eD (IJ ZZ) hr (A1 (eO (fV (K:=K)) Y2 eI))) UM.nd) (eC (eK 3 (eD (nO ZZ) hr (A3 (eO (fV (K:=K)) Y2 eI) eI (fE (v:=.int 5) ZZ.fz ⟨()⟩))) UM.nd) (eC (eX (tW (iU (eW jA Y1 eN) (jB (eW jA Y3 eN)))) (dX (eF eN)) eZ) (dX (eF (j2 ZZ.bb (Pd ZZ) hr (A2 Y1 Y3)))))))))),?_⟩
 extract_lets;have hz:t.length<=sizeLine:=by rw[dI];omega
 have hc2:=qj t none (some (-1));have hsl:=pO 35 t;have hml:=n5 35 t;refine⟨(),rfl,t,76,rfl,rfl,(),il (λc=>?a0) (λc1=>?a1)⟩
 case a0=>
  have e:lx t=(kD (jz t none (some (-1)))).map Mk.one:=by unfold lx;rw[if_pos c]
  rw[e] at q;refine⟨(),(),(),t,rfl,hz,(),⋯,λH1 s1=>?_⟩;cases en:kD (jz t none (some (-1))) with
  |none=>
   rw[en] at q;exact⟨(),rfl,(),km rfl (q _ _ s1 rfl)⟩
  |some b=>
   rw[en] at q;exact⟨(),rfl,(),iJ rfl ⟨(),λxo dx nx ndx nex=>⟨xo,dx,(),dY,rfl,q _ _ (s1.trans (mN nx ndx)) ⟨xo,rfl,dx,dY⟩⟩⟩⟩
 case a1=>
  refine⟨(),rfl,t,35,rfl,rfl,(by rw[dI];omega),λps hps=>?_⟩;have s0:=eE hps (.lst ((eU 35 t).map λq=>V.str (Tx q)));refine⟨(),ps,(),.inl (SqL.of dY),rfl,(),?_⟩;have two:(∃a b,eU 35 t=[a,b])∨(∀a b,eU 35 t≠[a,b]):=by
   by_cases z:∃a b,eU 35 t=[a,b]
   ·exact .inl z
   ·exact .inr λr s e=>z ⟨r,s,e⟩
  rcases two with ⟨a,b,e2⟩ | hno
  ·have e:lx t=Hc (kD a) (gJ 1 5 b):=by unfold lx;rw[if_neg c1,e2]
   rw[e] at q;have h1:=hml a (by rw[e2];simp);have h2:=hml b (by rw[e2];simp);rw[e2];refine iJ rfl ⟨(),ps,_,(()),SqL.of dY,rfl,a,rfl,⋯,λH1 s1=>?_⟩;refine⟨(),ps,_,(()),SqL.of (s1 _ _ dY),rfl,b,1,5,rfl,⋯,λH2 s2=>?_⟩;rw[e2] at s0;cases ew:kD a with
   |none=>
    rw[ew] at q;exact⟨(),rfl,(),km rfl (q _ _ (s0.trans (s1.trans s2)) rfl)⟩
   |some wd=>
    rw[ew] at q;refine⟨(),rfl,(),iJ rfl ⟨(),rfl,(),?_⟩⟩;cases en:gJ 1 5 b with
    |none=>
     rw[en] at q;exact km rfl (q _ _ (s0.trans (s1.trans s2)) rfl)
    |some m=>
     rw[en] at q;exact iJ rfl ⟨(),(),λxo dx nx ndx nex=>⟨xo,dx,_,(),dY,rfl,q _ _ (s0.trans (s1.trans (s2.trans (Qh nx ndx)))) ⟨xo,rfl,dx,dY⟩⟩⟩
  ·have hlen:¬(eU 35 t).length=2:=λe=>by
    match h:eU 35 t,e with
    |[r,s],_=>exact hno r s h
   have e:lx t=none:=by
    unfold lx;rw[if_neg c1];split
    ·rename_i a b h;exact absurd h (hno a b)
    ·rfl
   rw[e] at q;refine km ?_ (q _ _ s0 rfl);rw[dP λz=>hlen (by have z:=V.int.inj z;rw[aY] at z;omega)];rfl
theorem Ku:Dx P w base ZZ.e3 7 (ao6 K aD aF aG aI aE aA aH aJ aU aV):=by
 refine ZZ.e3.dfs UG (by trivial) ?_;rintro _ _ _ _ s H _ Q E hr⟨l,lo,hi,wk,rfl,hb,hok,q⟩;refine⟨_,(eC (eX (tW (iU (iI (gY (fX oh ZZ.aa PyProof.Rows.boot_isinstance (A2 Y0 (kU ZZ.aj PyProof.Rows.boot_str))))) (jB (eW kj (fX yd ZZ.ao PySem.boot_len (A1 Y0)) (fE (v:=.int 300) ZZ.bu ⟨()⟩))))) (dX jL) eZ) (eC (eK 4 (ny Y0 (eV [44])) UG.nd) (eC (eK 5 eI UG.nd) (eC (eK 6 (gC aN) UG.nd) (eC (j9 (iE ZZ.az (lV (pJ (K:=K)) Y4 mr (ku (fE (v:=.int 40) ZZ.av ⟨()⟩)))) (oF (K:=K) (jE (gN 7 UG.nd) (jE (gN 8 UG.nd) mK))) (eC (eK 9 (eD (Ks ZZ) hr (A3 Y8 Y1 Y2)) UG.nd) (dX (eX (eW jA Y9 eN) (eC (eK 10 (kP (IZ ((YT ZZ).at_ ZZ.bd) hr Y3 (A1 Y8)) (IZ ((Ru ZZ).at_ ZZ.a2) hr Y3 (A1 Y8))) UG.nd) (eC (eX (tW (iU (eW jA (v_ 10) eN) (jB (eW fU (fX (kX (K:=K)) ZZ.ao PySem.boot_len (A1 Y6)) (fE (v:=.int 20) ZZ.et ⟨()⟩))))) (dX jL) eZ) (dX (lO (n6 Y6 (v_ 10)))))) (dX (eK 5 (dZ lN Y5 Y9) UG.nd))))) PassesOwn.never) (eC (eX (eW kj (fX (kX (K:=K)) ZZ.ao PySem.boot_len (A1 Y4)) (fE (v:=.int 40) ZZ.av ⟨()⟩)) (dX jL) eZ) (dX (eF (ij (A2 Y5 Y6)))))))))),?_⟩
 extract_lets;have hl:=hok.len;have hml:=n5 44 l;refine⟨(),_,.str,.str,rfl,(by decide),rfl,(),iJ rfl ⟨(),l,rfl,(by rw[dI];omega),(()),(),?_⟩⟩;rw[dP (show ¬(300:Int)<((l.length:Nat):Int) by omega)];refine fK ⟨(),rfl,l,44,rfl,rfl,(by rw[dI];omega),λps hps=>?_⟩;have s0:=eE hps (.lst ((eU 44 l).map λq=>V.str (Tx q)));refine⟨(zL 0),λmk hmk=>?_⟩;have s1:=eE hmk (.lst []);refine⟨(),(),ps,(),SqL.of (s1 _ _ dY),λpc hpc=>?_⟩
 have ecut:lZ ((eU 44 l).map λq=>V.str (Tx q)) none (some 40)=(eU 44 l).map λq=>V.str (Tx q):=Ew (by rw[aY];exact hok.few);rw[ecut];have hne:pc≠mk:=λe=>by
  rw[e,dY] at hpc;cases hpc
 have s1b:=eE hpc (.lst ((eU 44 l).map λq=>V.str (Tx q)));refine⟨pc,rfl,⟨_,SqL.of dY⟩,uy (K:=K) (a:=pc) (xs:=(eU 44 l).map λq=>V.str (Tx q)) (λi σ H2=>∃(u1 u2 u3 u4:Option V) (qs:List Addr),σ=[some (.str (Tx l)),some (.int lo),some (.int hi),some (.ref (if wk=true then aV else aU)),some (.ref ps),some (.int (gL (ii lo hi ((eU 44 l).take i)))),some (.ref mk),u1,u2,u3,u4]/\Same (upd H ps (.lst ((eU 44 l).map λq=>V.str (Tx q)))) H2/\H2 pc=some (.lst ((eU 44 l).map λq=>V.str (Tx q)))/\H2 mk=some (.lst (qs.map V.ref))/\Ft (MkAt (⟨aD,aF,aG,aI,aE,aA,aH,aJ⟩:Cs) H2) qs (iA wk lo hi ((eU 44 l).take i))) ⟨_,_,_,_,[],rfl,s1.trans s1b,dY,s1b _ _ dY,.nil⟩ (λi σ H2 _ ⟨_,_,_,_,_,_,_,h,_⟩=>SqL.of h) ?turn ?done⟩
 case turn=>
  rintro i x σ H2 T hx ⟨u1,u2,u3,u4,qs,rfl,s2,h2c,h2m,hq⟩ hT;rw[bN] at hx;cases ew:(eU 44 l)[i]? with
  |none=>rw[ew] at hx;cases hx
  |some w0=>
   rw[ew] at hx;obtain rfl:V.str (Tx w0)=x:=bF hx;have hw:=hml w0 (bU ew);refine⟨T,(),SqT.of dY,rfl,_,(),(()),?_⟩;refine⟨(),(),(),w0,lo,hi,rfl,⋯,hb,λH3 s3=>?_⟩;cases em:gH lo hi w0 with
   |some m=>
    have et:(eU 44 l).take (i+1)=(eU 44 l).take i++[w0]:=by rw[bH,ew];rfl
    have s23:=(eE hT _).trans s3;refine⟨(),rfl,(),iJ rfl ⟨(),(),(()),?_⟩⟩;exact⟨_,_,_,_,qs,by rw[et,aFK em,pz];rfl,s2.trans s23,s23 _ _ h2c,s23 _ _ h2m,by rw[et,Rl em];exact hq.keepM s23.keep⟩
   |none=>
    cases wk with
    |false=>
     have hso:(jY false w0).isSome=true:=by
      rcases hok.all w0 (bU ew) with h | h
      ·rw[em] at h;cases h
      ·exact h
     obtain⟨k,ek⟩:=cW.mp hso;have ek':jZ w0=some k:=ek;refine⟨(),rfl,(),km rfl ?_⟩;refine .inl ⟨(),rfl,(),w0,rfl,⋯,λv H4 s4 hv=>?_⟩;rw[ek'] at hv;obtain⟨x,rfl,hx⟩:=hv;have s24:=(eE hT _).trans (s3.trans s4);have hq4:=hq.keepM s24.keep;have lq:qs.length=(iA false lo hi ((eU 44 l).take i)).length:=Paired.length hq;have l1:=J2 false lo hi (eU 44 l) (i+1);have et:(eU 44 l).take (i+1)=(eU 44 l).take i++[w0]:=by rw[bH,ew];rfl
     rw[et,qk em ek,aZ,b7] at l1;have hm20:=hok.most;refine⟨(),rfl,(),iJ rfl ⟨(),mk,(),.inl (SqL.of (s24 _ _ h2m)),rfl,(),?_⟩⟩;refine gX (λc=>?_) (λc=>?_)
     ·rw[aY] at c;omega
     refine⟨(),.inl ⟨rfl,_,SqL.of (s24 _ _ h2m)⟩,(),mk,(()),s24 _ _ h2m,(by rw[aY,dI];omega),?_⟩;have kp:=qW (l':=qs.map V.ref++[.ref x]) (s24 _ _ h2m);exact⟨_,_,_,_,qs++[x],by rw[et,Ea em];rfl,kM hmk (s2.trans s24),by rw[eQ hne];exact s24 _ _ h2c,by rw[a8];exact dY,by rw[et,qk em ek];exact Ft.app (hq4.keepM kp) (.cons (hx.keep kp) .nil)⟩
    |true=>
     have hso:(jY true w0).isSome=true:=by
      rcases hok.all w0 (bU ew) with h | h
      ·rw[em] at h;cases h
      ·exact h
     obtain⟨k,ek⟩:=cW.mp hso;have ek':lx w0=some k:=ek;refine⟨(),rfl,(),km rfl ?_⟩;refine .inr ⟨(),rfl,(),w0,rfl,⋯,λv H4 s4 hv=>?_⟩;rw[ek'] at hv;obtain⟨x,rfl,hx⟩:=hv;have s24:=(eE hT _).trans (s3.trans s4);have hq4:=hq.keepM s24.keep;have lq:qs.length=(iA true lo hi ((eU 44 l).take i)).length:=Paired.length hq;have l1:=J2 true lo hi (eU 44 l) (i+1);have et:(eU 44 l).take (i+1)=(eU 44 l).take i++[w0]:=by rw[bH,ew];rfl
     rw[et,qk em ek,aZ,b7] at l1;have hm20:=hok.most;refine⟨(),rfl,(),iJ rfl ⟨(),mk,(),.inl (SqL.of (s24 _ _ h2m)),rfl,(),?_⟩⟩;refine gX (λc=>?_) (λc=>?_)
     ·rw[aY] at c;omega
     refine⟨(),.inl ⟨rfl,_,SqL.of (s24 _ _ h2m)⟩,(),mk,(()),s24 _ _ h2m,(by rw[aY,dI];omega),?_⟩;have kp:=qW (l':=qs.map V.ref++[.ref x]) (s24 _ _ h2m);exact⟨_,_,_,_,qs++[x],by rw[et,Ea em];rfl,kM hmk (s2.trans s24),by rw[eQ hne];exact s24 _ _ h2c,by rw[a8];exact dY,by rw[et,qk em ek];exact Ft.app (hq4.keepM kp) (.cons (hx.keep kp) .nil)⟩
 case done=>
  rintro σ H2 ⟨u1,u2,u3,u4,qs,rfl,s2,h2c,h2m,hq⟩;refine⟨(),ps,(),.inl (SqL.of (s2 _ _ dY)),(()),(),?_⟩;have hfew:=hok.few;rw[dP (show ¬(40:Int)<((((eU 44 l).map λq=>V.str (Tx q)).length:Nat):Int) by rw[aY];omega)];rw[aY,bL] at hq ⊢;refine fK ⟨(),(),(zL 2),λp hp=>?_⟩;have s3:=eE hp (.tup [.int (gL (ii lo hi (eU 44 l))),.ref mk]);exact q p mk qs _ (none_of s0 hmk) (s0.trans (s2.trans s3)) dY (s3 _ _ h2m) (hq.keepM s3.keep)
theorem Zz:Dx P w base ZZ.fl 8 (OW K aD aF aG aI aE aA aH aJ):=by
 refine ZZ.fl.dfs UD (by trivial) ?_;rintro _ _ _ _ s H _ Q E hr⟨l,rfl,hok,q1,q2⟩;refine⟨_,(eC (eK 1 (eD (Ku ZZ) hr (aC Y0 (A3 eI (fE (v:=.int 31) ZZ.ci ⟨()⟩) (fE (v:=.ref aU) ZZ.bd rfl)))) UD.nd) (eC (eX (eW fU Y0 (eV [42])) (dX (eF eN)) eZ) (eC (eX (eW fU (eO (fN (K:=K)) Y1 eI) eI) (dX (eF (eO (fN (K:=K)) Y1 eI))) eZ) (dX (eF (dZ Iz (gC (A1 (j2 ZZ.a3 (Le ZZ) hr (A1 (eO (fN (K:=K)) Y1 eI))))) (eO (fN (K:=K)) Y1 eI))))))),?_⟩
 extract_lets;refine⟨(),l,1,31,false,rfl,⟨by decide,by decide,by decide⟩,hok,λp m qs H1 hmn s1 hp hm hq=>?_⟩;have lq:qs.length<=20:=by
  have:=Paired.length hq;have:=hok.most;omega
 refine⟨(),rfl,(),lI (λc=>q1 c _ s1) (λc=>?_)⟩;have q2:=q2 c;unfold mU at q2;generalize iA false 1 31 (eU 44 l)=ms at hq q2;generalize gL (ii 1 31 (eU 44 l))=M at hp q2;refine⟨(),p,_,(()),SqT.of hp,rfl,rfl,(),gX (λc0=>⟨(),p,_,(()),SqT.of hp,rfl,q2 m qs _ hmn s1 hm ?_⟩) (λc0=>?_)⟩
 ·have e:kY false M=[]:=by unfold kY;rw[if_pos c0]
  rw[e];exact hq
 have e:kY false M=[.num M]:=by unfold kY;rw[if_neg c0];rfl
 rw[e] at q2;refine⟨(),p,_,(()),SqT.of hp,rfl,λxo dx nx ndx nex=>⟨xo,dx,(),dY,rfl,(zL 1),λl1 hl1=>?_⟩⟩;have n1:Same H1 (upd (upd (upd H1 dx (.own xo)) xo (.ins aD dx [])) xo (.ins aD dx [("mask",.int M)])):=mN nx ndx;have n2:=n1.trans (eE hl1 (.lst [.ref xo]));refine⟨(),p,_,(()),SqT.of (n2 _ _ hp),rfl,l1,m,(()),dY,n2 _ _ hm,(by rw[aY,dI];show 1+_<=_;omega),λl2 hl2=>?_⟩;have n3:=n2.trans (eE hl2 (.lst ([.ref xo]++qs.map V.ref)))
 exact q2 l2 (xo::qs) _ (none_of (s1.trans n2) hl2) (s1.trans n3) dY (.cons ⟨dx,(eE hl2 _) _ _ ((eE hl1 _) _ _ dY)⟩ (hq.keepM n3.keep))
theorem PP:Dx P w base ZZ.dj 8 (TR K aD aF aG aI aE aA aH aJ):=by
 refine ZZ.dj.dfs UN (by trivial) ?_;rintro _ _ _ _ s H _ Q E hr⟨l,rfl,hok,q1,q2⟩;refine⟨_,(eC (eK 1 (eD (Ku ZZ) hr (aC Y0 (A3 eI (fE (v:=.int 7) ZZ.aw ⟨()⟩) (fE (v:=.ref aV) ZZ.a2 rfl)))) UN.nd) (eC (eX (eW fU Y0 (eV [42])) (dX (eF eN)) eZ) (eC (eX (eW fU (eO (fN (K:=K)) Y1 eI) eI) (dX (eF (eO (fN (K:=K)) Y1 eI))) eZ) (eC (eK 2 (dZ pR (dZ lN (eO (fN (K:=K)) Y1 eI) (dZ oO (eO (fN (K:=K)) Y1 eI) (fE (v:=.int 7) ZZ.aw ⟨()⟩))) (fE (v:=.int 127) ZZ.dt ⟨()⟩)) UN.nd) (dX (eF (dZ Iz (gC (A1 (j2 ZZ.a0 (LL ZZ) hr (A1 Y2)))) (eO (fN (K:=K)) Y1 eI)))))))),?_⟩
 extract_lets;refine⟨(),l,0,7,true,rfl,⟨by decide,by decide,by decide⟩,hok,λp m qs H1 hmn s1 hp hm hq=>?_⟩;have lq:qs.length<=20:=by
  have:=Paired.length hq;have:=hok.most;omega
 refine⟨(),rfl,(),lI (λc=>q1 c _ s1) (λc=>?_)⟩;have q2:=q2 c;unfold mU at q2;generalize iA true 0 7 (eU 44 l)=ms at hq q2;generalize gL (ii 0 7 (eU 44 l))=M at hp q2;refine⟨(),p,_,(()),SqT.of hp,rfl,rfl,(),gX (λc0=>⟨(),p,_,(()),SqT.of hp,rfl,q2 m qs _ hmn s1 hm ?_⟩) (λc0=>?_)⟩
 ·have e:kY true M=[]:=by unfold kY;rw[if_pos c0]
  rw[e];exact hq
 have e:kY true M=[.wkd (ic M)]:=by unfold kY;rw[if_neg c0];rfl
 rw[e] at q2;refine⟨(),p,_,(()),SqT.of hp,rfl,(),p,_,(()),SqT.of hp,rfl,(()),(by show (0:Int)<=7;decide),(()),(()),?_⟩;refine⟨(),λxo dx nx ndx nex=>⟨xo,dx,(),dY,rfl,(zL 1),λl1 hl1=>?_⟩⟩;have n1:Same H1 (upd (upd (upd H1 dx (.own xo)) xo (.ins aE dx [])) xo (.ins aE dx [("mask",.int (ic M))])):=mN nx ndx;have n2:=n1.trans (eE hl1 (.lst [.ref xo]));refine⟨(),p,_,(()),SqT.of (n2 _ _ hp),rfl,l1,m,(()),dY,n2 _ _ hm,(by rw[aY,dI];show 1+_<=_;omega),λl2 hl2=>?_⟩
 have n3:=n2.trans (eE hl2 (.lst ([.ref xo]++qs.map V.ref)));exact q2 l2 (xo::qs) _ (none_of (s1.trans n2) hl2) (s1.trans n3) dY (.cons ⟨dx,(eE hl2 _) _ _ ((eE hl1 _) _ _ dY)⟩ (hq.keepM n3.keep))
theorem zY:Dx P w base ZZ.f9 3 (RJ K):=by
 refine ZZ.f9.dfs Uw (by trivial) ?_;rintro _ _ _ _ s H _ Q E hr⟨k,rfl,hk,q⟩;refine⟨_,(eC (eK 1 (dZ jO Y0 eI) Uw.nd) (eC (eK 2 (dZ ig Y0 eI) Uw.nd) (eC (eX (eW fU Y1 (fE (v:=.int 12) ZZ.bt ⟨()⟩)) (dX (eF (ij (A3 eI (fE (v:=.int 29) ZZ.fe ⟨()⟩) Y2)))) eZ) (dX (eF (ij (A3 (dZ fG Y1 eI) (eD (pb ZZ) hr (A2 (fE (v:=.int 1) ZZ.eu ⟨()⟩) (dZ fG Y1 eI))) Y2))))))),?_⟩;extract_lets
 refine⟨(),(()),⟨by decide,by decide⟩,?_⟩;refine⟨(),(()),(by show (0:Int)<7;decide),?_⟩;refine⟨(),rfl,(),gX (λc=>?_) (λc=>?_)⟩
 ·refine⟨(),(zL 3),λp hp=>?_⟩;exact q p _ (eE hp _) (by unfold mR;rw[if_pos c];exact dY)
 ·refine⟨(),(()),(),(()),_,(),⟨⋯,⋯⟩,(),(zL 3),λp hp=>?_⟩;exact q p _ (eE hp _) (by unfold mR;rw[if_neg c];exact dY)
theorem Ol:Dx P w base ZZ.ga 3 (atO K):=by
 refine ZZ.ga.dfs UP (by trivial) ?_;rintro _ _ _ _ s H _ Q E hr⟨h,m,rfl,hh,hm,q⟩;refine⟨_,(eC (eK 2 eI UP.nd) (eC (j9 (kf (K:=K) (eD (Q5 ZZ) hr (A1 Y0))) (gN 3 UP.nd) (dX (eK 2 (dZ lN Y2 (dZ kT Y1 (dZ iW (fE (v:=.int 60) ZZ.an ⟨()⟩) Y3))) UP.nd)) PassesOwn.never) (dX (eF Y2)))),?_⟩;extract_lets;have bh:=vb hh.1 hh.2;have bm:=vb hm.1 hm.2;refine⟨(),h,rfl,⟨hh.1,⋯⟩,λp H1 s1 h1=>⟨p,rfl,⟨_,SqL.of h1⟩,mM (K:=K) (a:=p) (xs:=(l9 h).map V.int) (λi σ H2=>∃(v3:Option V),σ=[some (.int h),some (.int m),some (.int (gL (((l9 h).take i).map λz=>m*2^(60*z).toNat))),v3]/\Same H1 H2) ⟨(),Same.refl _⟩ (λi σ H2 _ ⟨_,_,s2⟩=>SqL.of (s2 _ _ h1)) ?turn ?done⟩⟩
 case done=>
  rintro σ H2 ⟨v3,rfl,s2⟩;rw[aY,bL];exact⟨(),q _ H2 rfl (s1.trans s2)⟩
 case turn=>
  rintro i x σ H2 hx ⟨v3,rfl,s2⟩;rw[bN] at hx;cases ez:(l9 h)[i]? with
  |none=>rw[ez] at hx;cases hx
  |some z=>
   rw[ez] at hx;obtain rfl:V.int z=x:=bF hx;have et:gL (((l9 h).take (i+1)).map λz=>m*2^(60*z).toNat)=Builtin.bitOr (gL (((l9 h).take i).map λz=>m*2^(60*z).toNat)) (m*2^(60*z).toNat):=by rw[bH,ez,a8];exact pz _ _
   rw[et];have hz:=bU ez;rw[qO hh.1 hh.2] at hz;obtain⟨n,hn,_,rfl⟩:=flt_mem.mp hz;refine⟨(),(),(),(()),.inl ⟨by decide,by decide⟩,(()),⟨?_,?_,?_⟩,(()),?_⟩
   ·omega
   ·omega
   ·omega
   ·exact⟨(),s2⟩
theorem Lg:Dx P w base ZZ.gu 5 (YJ K aD aF aG aI aE aA aH aJ):=by
 refine ZZ.gu.dfs Up (by trivial) ?_;rintro _ _ _ _ s H _ Q E hr⟨dv,wv,kd,kw,l,fi,rfl,hd,hw,hlf,q⟩;refine⟨_,(eC (eX (tW (mP (eW jA Y0 eN) (og (eW jA Y1 eN)))) (dX (eF (eD (um ZZ) hr (A1 Y2)))) eZ) (eC (eK 4 eI Up.nd) (eC (j9 (iT (ij (A2 Y0 Y1))) (gN 5 Up.nd) (dX (eX (eW R0 Y5 eN) (dX (eK 4 (dZ lN Y4 (eD (Sk ZZ) hr (A3 Y5 Y2 Y3))) Up.nd)) eZ)) PassesOwn.never) (dX (eF Y4))))),?_⟩
 extract_lets;have loop:kd.isNone=false∨kw.isNone=false->iQ kd kw l fi=jP kw (jP kd 0 l fi) l fi:=λh=>by
  unfold iQ;rw[if_neg];rintro⟨h1,h2⟩;rcases h with h | h
  ·rw[h] at h1;cases h1
  ·rw[h] at h2;cases h2
 cases kd with
 |none=>
  have ed:dv=.non:=hd;subst ed;cases kw with
  |none=>
   have ew:wv=.non:=hw;subst ew;refine⟨(),rfl,(),?_⟩;show if decide (V.non=V.non)=true then _ else _
   rw[dN rfl];refine fR ⟨(),rfl,(),?_⟩;show if decide (V.non=V.non)=true then _ else _
   rw[dN rfl];exact fR ⟨(),l,rfl,hlf.1,q H (Same.refl _)⟩
  |some kw=>
   rw[loop (.inr rfl)] at q;refine⟨(),rfl,(),?_⟩;show if decide (V.non=V.non)=true then _ else _
   rw[dN rfl];obtain⟨pw,qw,rfl,lw,fw,ow⟩:=hw;refine fR ⟨(),rfl,(),fK ?_⟩;refine⟨(),(),(zL 2),λtt ht=>⟨tt,rfl,⟨_,SqT.of dY⟩,AD (K:=K) (a:=tt) (xs:=[V.non,(V.ref pw)]) (λi σ H2=>∃v5:Option V,σ=[some V.non,some (V.ref pw),some (.int l),some (.int fi),some (.int (match i with | 0=>0 | 1=>jP none 0 l fi | _=>jP (some kw) (jP none 0 l fi) l fi)),v5]/\Same (upd H tt (.tup [V.non,(V.ref pw)])) H2) ⟨(),Same.refl _⟩ (λi σ H2 _ ⟨_,_,s2⟩=>SqT.of (s2 _ _ dY)) ?turn ?done⟩⟩
   case done=>
    rintro σ H2 ⟨v5,rfl,s2⟩;exact⟨(),q H2 ((eE ht _).trans s2)⟩
   case turn=>
    rintro i x σ H2 hx ⟨v5,rfl,s2⟩;have sA:=(eE ht (.tup [V.non,(V.ref pw)])).trans s2
    match i,hx with
    |0,hx=>
     cases hx;refine⟨(),rfl,(),?_⟩;show if (!decide (V.non=V.non))=true then _ else _
     rw[dN rfl];exact fK ⟨(),s2⟩
    |1,hx=>
     cases hx;exact⟨(),rfl,(),fR ⟨(),(),(),(),pw,qw,kw,l,fi,rfl,SqL.of (sA _ _ lw),fw.keepM sA.keep,ow,hlf,(()),⟨(),s2⟩⟩⟩
    |i+2,hx=>cases hx
 |some kd=>
  rw[loop (.inl rfl)] at q;obtain⟨pd,qd,rfl,ld,fd,od⟩:=hd;refine⟨(),rfl,(),fK ?_⟩;cases kw with
  |none=>
   have ew:wv=.non:=hw;subst ew;refine⟨(),(),(zL 2),λtt ht=>⟨tt,rfl,⟨_,SqT.of dY⟩,AD (K:=K) (a:=tt) (xs:=[(V.ref pd),V.non]) (λi σ H2=>∃v5:Option V,σ=[some (V.ref pd),some V.non,some (.int l),some (.int fi),some (.int (match i with | 0=>0 | 1=>jP (some kd) 0 l fi | _=>jP none (jP (some kd) 0 l fi) l fi)),v5]/\Same (upd H tt (.tup [(V.ref pd),V.non])) H2) ⟨(),Same.refl _⟩ (λi σ H2 _ ⟨_,_,s2⟩=>SqT.of (s2 _ _ dY)) ?turn ?done⟩⟩
   case done=>
    rintro σ H2 ⟨v5,rfl,s2⟩;exact⟨(),q H2 ((eE ht _).trans s2)⟩
   case turn=>
    rintro i x σ H2 hx ⟨v5,rfl,s2⟩;have sA:=(eE ht (.tup [(V.ref pd),V.non])).trans s2
    match i,hx with
    |0,hx=>
     cases hx;exact⟨(),rfl,(),fR ⟨(),(),(),(),pd,qd,kd,l,fi,rfl,SqL.of (sA _ _ ld),fd.keepM sA.keep,od,hlf,(()),⟨(),s2⟩⟩⟩
    |1,hx=>
     cases hx;refine⟨(),rfl,(),?_⟩;show if (!decide (V.non=V.non))=true then _ else _
     rw[dN rfl];exact fK ⟨(),s2⟩
    |i+2,hx=>cases hx
  |some kw=>
   obtain⟨pw,qw,rfl,lw,fw,ow⟩:=hw;refine⟨(),(),(zL 2),λtt ht=>⟨tt,rfl,⟨_,SqT.of dY⟩,AD (K:=K) (a:=tt) (xs:=[(V.ref pd),(V.ref pw)]) (λi σ H2=>∃v5:Option V,σ=[some (V.ref pd),some (V.ref pw),some (.int l),some (.int fi),some (.int (match i with | 0=>0 | 1=>jP (some kd) 0 l fi | _=>jP (some kw) (jP (some kd) 0 l fi) l fi)),v5]/\Same (upd H tt (.tup [(V.ref pd),(V.ref pw)])) H2) ⟨(),Same.refl _⟩ (λi σ H2 _ ⟨_,_,s2⟩=>SqT.of (s2 _ _ dY)) ?turn ?done⟩⟩
   case done=>
    rintro σ H2 ⟨v5,rfl,s2⟩;exact⟨(),q H2 ((eE ht _).trans s2)⟩
   case turn=>
    rintro i x σ H2 hx ⟨v5,rfl,s2⟩;have sA:=(eE ht (.tup [(V.ref pd),(V.ref pw)])).trans s2
    match i,hx with
    |0,hx=>
     cases hx;exact⟨(),rfl,(),fR ⟨(),(),(),(),pd,qd,kd,l,fi,rfl,SqL.of (sA _ _ ld),fd.keepM sA.keep,od,hlf,(()),⟨(),s2⟩⟩⟩
    |1,hx=>
     cases hx;exact⟨(),rfl,(),fR ⟨(),(),(),(),pw,qw,kw,l,fi,rfl,SqL.of (sA _ _ lw),fw.keepM sA.keep,ow,hlf,(()),⟨(),s2⟩⟩⟩
    |i+2,hx=>cases hx
theorem Tp:Dm P w mg base ZZ.d0 4 (MB K aB):=by
 refine ZZ.d0.dfs Qz (by trivial) ?_;rintro f _ _ _ s H _ Q E hr⟨p,dx,fa,m0,m1,m3,dv,wv,rfl,hp,hf,h0,h1,q⟩;refine⟨_,(eC (iY Y0 (eO (fV (K:=K)) Y1 (fE (v:=.int 0) ZZ.gy ⟨()⟩))) (eC (iY Y0 (eO (fV (K:=K)) Y1 (fE (v:=.int 1) ZZ.g9 ⟨()⟩))) (eC (iY Y0 (eO (fV (K:=K)) Y1 (fE (v:=.int 2) ZZ.f0 ⟨()⟩))) (eC (iY Y0 (eO (fV (K:=K)) Y1 (fE (v:=.int 3) ZZ.g3 ⟨()⟩))) (eC (iY Y0 (eO (fV (K:=K)) Y1 (fE (v:=.int 4) ZZ.ct ⟨()⟩))) (dX (iY Y0 (eD (Ol ZZ) hr (A2 (hZ (K:=K) Y0) (hZ (K:=K) Y0)))))))))),?_⟩
 extract_lets;have hfp:fa≠p:=λe=>by rw[e,hp] at hf;cases hf
 have g0:H fa=some (.lst [.int m0,.int m1,dv,.int m3,wv]):=hf;have g1:(upd H p (.ins aB dx (fF "minute_mask" (.int m0) []))) fa=some (.lst [.int m0,.int m1,dv,.int m3,wv]):=by rw[eQ hfp];exact g0
 have g2:(upd (upd H p (.ins aB dx (fF "minute_mask" (.int m0) []))) p (.ins aB dx (fF "hour_mask" (.int m1) (fF "minute_mask" (.int m0) [])))) fa=some (.lst [.int m0,.int m1,dv,.int m3,wv]):=by rw[eQ hfp];exact g1
 have g3:(upd (upd (upd H p (.ins aB dx (fF "minute_mask" (.int m0) []))) p (.ins aB dx (fF "hour_mask" (.int m1) (fF "minute_mask" (.int m0) [])))) p (.ins aB dx (fF "day_marks" dv (fF "hour_mask" (.int m1) (fF "minute_mask" (.int m0) []))))) fa=some (.lst [.int m0,.int m1,dv,.int m3,wv]):=by rw[eQ hfp];exact g2
 have g4:(upd (upd (upd (upd H p (.ins aB dx (fF "minute_mask" (.int m0) []))) p (.ins aB dx (fF "hour_mask" (.int m1) (fF "minute_mask" (.int m0) [])))) p (.ins aB dx (fF "day_marks" dv (fF "hour_mask" (.int m1) (fF "minute_mask" (.int m0) []))))) p (.ins aB dx (fF "month_mask" (.int m3) (fF "day_marks" dv (fF "hour_mask" (.int m1) (fF "minute_mask" (.int m0) [])))))) fa=some (.lst [.int m0,.int m1,dv,.int m3,wv]):=by rw[eQ hfp];exact g3
 have g5:(upd (upd (upd (upd (upd H p (.ins aB dx (fF "minute_mask" (.int m0) []))) p (.ins aB dx (fF "hour_mask" (.int m1) (fF "minute_mask" (.int m0) [])))) p (.ins aB dx (fF "day_marks" dv (fF "hour_mask" (.int m1) (fF "minute_mask" (.int m0) []))))) p (.ins aB dx (fF "month_mask" (.int m3) (fF "day_marks" dv (fF "hour_mask" (.int m1) (fF "minute_mask" (.int m0) [])))))) p (.ins aB dx (fF "weekday_marks" wv (fF "month_mask" (.int m3) (fF "day_marks" dv (fF "hour_mask" (.int m1) (fF "minute_mask" (.int m0) []))))))) fa=some (.lst [.int m0,.int m1,dv,.int m3,wv]):=by rw[eQ hfp];exact g4
 have l5:∀(f:Str) (v:V),(gQ m0 m1 dv m3 wv 0).lookup f=some v->f≠"time_mask"->(fF "weekday_marks" wv (fF "month_mask" (.int m3) (fF "day_marks" dv (fF "hour_mask" (.int m1) (fF "minute_mask" (.int m0) []))))).lookup f=some v:=λf v h hne=>by
  unfold gQ at h;rw[fH,if_neg hne] at h;exact h
 refine⟨(),fa,_,(()),SqL.of g0,rfl,(),p,aB,dx,(),hp,ZZ.ad.cl,ZZ.as,(by show 0<1000;decide),(),fa,_,(()),SqL.of g1,rfl,(),p,aB,dx,(),dY,ZZ.ad.cl,ZZ.ax,(by show 1<1000;decide),(),fa,_,(()),SqL.of g2,rfl,(),p,aB,dx,(),dY,ZZ.ad.cl,ZZ.bc,(by show 2<1000;decide),(),fa,_,(()),SqL.of g3,rfl,(),p,aB,dx,(),dY,ZZ.ad.cl,ZZ.au,(by show 3<1000;decide),(),fa,_,(()),SqL.of g4,rfl,(),p,aB,dx,(),dY,ZZ.ad.cl,ZZ.a1,(by show 4<1000;decide),(),p,aB,dx,_,(),dY,ZZ.ad.cl,ZZ.ax,l5 _ _ (Kq ..) (by decide +kernel),(),p,aB,dx,_,(),dY,ZZ.ad.cl,ZZ.as,l5 _ _ (Ge ..) (by decide +kernel),m1,m0,rfl,h1,h0,λt HT ht sT=>?_⟩
 refine⟨(),p,aB,dx,(),sT _ _ dY,ZZ.ad.cl,ZZ.ay,(by show 5<1000;decide),q t _ ht dY λb o hb hne=>?_⟩;rw[eQ hne];refine sT _ _ ?_;rw[eQ hne,eQ hne,eQ hne,eQ hne,eQ hne];exact hb
theorem vk:Dm P w mg base ZZ.eg 6 (anQ K aB aD aF aG aI aE aA aH aJ):=by
 refine ZZ.eg.dfs U1 (by trivial) ?_;rintro _ _ _ _ s H _ Q E hr⟨p,dx,m0,m1,m3,tm,k,dv,wv,kd,kw,rfl,hp,hk,hm,hd,hw,q⟩;refine⟨_,(eC (eK 2 (eD (zY ZZ) hr (A1 Y1)) U1.nd) (eC (eX (iI (gY (eD (mF ZZ) hr (A2 (hZ (K:=K) Y0) (eO (fN (K:=K)) Y2 eI))))) (dX (eF eI)) eZ) (dX (eF (eD (Lg ZZ) hr (aC (hZ (K:=K) Y0) (A3 (hZ (K:=K) Y0) (eO (fN (K:=K)) Y2 eI) (eO (fN (K:=K)) Y2 eI)))))))),?_⟩
 extract_lets;have ml:=pB hk.1 hk.2;refine⟨(),k,rfl,hk,λt H1 s1 h1=>?_⟩;rw[qX] at h1;have hp1:=s1 _ _ hp;refine⟨(),p,aB,dx,_,(),hp1,ZZ.ad.cl,ZZ.au,Fi ..,(),t,_,(()),SqT.of h1,rfl,m3,kg k,rfl,⟨hm,⋯⟩,(),?_⟩;by_cases c:tb m3 (kg k).toNat=true
 ·rw[if_pos c] at q;rw[c];refine fK ⟨(),p,aB,dx,_,(),hp1,ZZ.ad.cl,ZZ.bc,Nn ..,(),p,aB,dx,_,(),hp1,ZZ.ad.cl,ZZ.a1,Zo ..,(),t,_,(()),SqT.of h1,rfl,(),t,_,(()),SqT.of h1,rfl,dv,wv,kd,kw,iO k,k%7,rfl,hd.keep s1,hw.keep s1,ml.2,λH' s'=>q H' (s1.trans s')⟩
 ·have c':tb m3 (kg k).toNat=false:=by simpa using c
  rw[if_neg c] at q;rw[c'];exact fR (q H1 s1)
theorem NW:Dx P w base ZZ.fm 9 (asD K aD aF aG aI aE aA aH aJ):=by
 refine ZZ.fm.dfs UO (by trivial) ?_;rintro _ _ _ _ s H _ Q E hr⟨t,pl,rfl,h⟩;refine⟨_,(eC (eX (eW fU Y1 (fE (v:=.int 2) ZZ.f0 ⟨()⟩)) (dX (eF (eD (Zz ZZ) hr (A1 Y0)))) eZ) (eC (eX (eW fU Y1 (fE (v:=.int 4) ZZ.ct ⟨()⟩)) (dX (eF (eD (PP ZZ) hr (A1 Y0)))) eZ) (eC (eK 2 (uw (fE (v:=.ref a_BOUNDS) ZZ.gz rfl) Y1) UO.nd) (dX (eF (eD (Pm ZZ) hr (A3 Y0 (eO (fN (K:=K)) Y2 eI) (eO (fN (K:=K)) Y2 eI)))))))),?_⟩
 extract_lets;rcases h with ⟨rfl,ko,hT,q⟩ | ⟨rfl,ko,hT,q⟩ | ⟨lo,hi,m,hp,hT,q⟩
 ·cases ko with
  |none=>
   have et:t=[42]:=hT.2.2;exact⟨(),rfl,(),gX (λ_=>⟨(),t,rfl,hT.2.1,(λ_ H' s'=>q _ H' s' rfl (λp e=>nomatch e)),(λc=>absurd et c)⟩) (λc=>absurd rfl c)⟩
  |some ks=>
   exact⟨(),rfl,(),gX (λ_=>⟨(),t,rfl,hT.2.1,(λe=>absurd e hT.2.2.1),(λ_ m qs H' hm s' hl hF=>q _ H' s' ⟨m,qs,rfl,hl,by rw[←hT.2.2.2.2];exact hF,λk hk=>(EQ hT.2.2.2.1 k hk).2.2⟩ (λp e=>by cases e;exact hm))⟩) (λc=>absurd rfl c)⟩
 ·cases ko with
  |none=>
   have et:t=[42]:=hT.2.2;exact⟨(),rfl,(),gX (λc=>absurd c (by decide)) (λ_=>⟨(),rfl,(),gX (λ_=>⟨(),t,rfl,hT.2.1,(λ_ H' s'=>q _ H' s' rfl (λp e=>nomatch e)),(λc=>absurd et c)⟩) (λc=>absurd rfl c)⟩)⟩
  |some ks=>
   exact⟨(),rfl,(),gX (λc=>absurd c (by decide)) (λ_=>⟨(),rfl,(),gX (λ_=>⟨(),t,rfl,hT.2.1,(λe=>absurd e hT.2.2.1),(λ_ m qs H' hm s' hl hF=>q _ H' s' ⟨m,qs,rfl,hl,by rw[←hT.2.2.2.2];exact hF,λk hk=>(EQ hT.2.2.2.1 k hk).2.2⟩ (λp e=>by cases e;exact hm))⟩) (λc=>absurd rfl c)⟩)⟩
 ·have hl:=hT.len;have hne:pl≠2/\pl≠4:=⋯;rcases hp with ⟨rfl,rfl,rfl⟩ | ⟨rfl,rfl,rfl⟩ | ⟨rfl,rfl,rfl⟩
  ·exact⟨(),rfl,(),gX (λc=>absurd c (by decide)) (λ_=>⟨(),rfl,(),gX (λc=>absurd c (by decide)) (λ_=>⟨(),a_BOUNDS,_,_,(),ZZ.bv,rfl,rfl,(),(),a_BOUNDS_0,_,(()),ZZ.cj _,rfl,(),a_BOUNDS_0,_,(()),ZZ.cj _,rfl,t,_,(),hl,⟨by decide,by decide,by decide⟩,hT.ok,λH' s'=>by rw[hT.is];exact q H' s'⟩)⟩)⟩
  ·exact⟨(),rfl,(),gX (λc=>absurd c (by decide)) (λ_=>⟨(),rfl,(),gX (λc=>absurd c (by decide)) (λ_=>⟨(),a_BOUNDS,_,_,(),ZZ.bv,rfl,rfl,(),(),a_BOUNDS_1,_,(()),ZZ.ck _,rfl,(),a_BOUNDS_1,_,(()),ZZ.ck _,rfl,t,_,(),hl,⟨by decide,by decide,by decide⟩,hT.ok,λH' s'=>by rw[hT.is];exact q H' s'⟩)⟩)⟩
  ·exact⟨(),rfl,(),gX (λc=>absurd c (by decide)) (λ_=>⟨(),rfl,(),gX (λc=>absurd c (by decide)) (λ_=>⟨(),a_BOUNDS,_,_,(),ZZ.bv,rfl,rfl,(),(),a_BOUNDS_3,_,(()),ZZ.cl _,rfl,(),a_BOUNDS_3,_,(()),ZZ.cl _,rfl,t,_,(),hl,⟨by decide,by decide,by decide⟩,hT.ok,λH' s'=>by rw[hT.is];exact q H' s'⟩)⟩)⟩
theorem XW:Dx P w base ZZ.gv 10 (SY K aD aF aG aI aE aA aH aJ):=by
 refine ZZ.gv.dfs YC (by trivial) ?_;rintro _ _ _ _ s H _ Q E hr⟨t,pl,rfl,h⟩;refine⟨_,(dX (Mn (dX (eF (eD (NW ZZ) hr (A2 Y0 Y1)))))),?_⟩;exact⟨(),(),t,pl,rfl,h⟩
theorem MK:Dx P w base ZZ.gb 11 (KR K aD aF aG aI aE aA aH aJ aB):=by
 refine ZZ.gb.dfs UI (by trivial) ?_;rintro _ _ _ _ s H _ Q E hr⟨w0,w1,w2,w3,w4,m0,m1,m3,kd,kw,rfl,f0,f1,f3,d2,d4,hb,q⟩;refine⟨_,(eC (eX (tW (iU (iI (gY (fX oh ZZ.aa PyProof.Rows.boot_isinstance (A2 Y0 (kU ZZ.aj PyProof.Rows.boot_str))))) (jB (eW kj (fX yd ZZ.ao PySem.boot_len (A1 Y0)) (fE (v:=.int 1600) ZZ.c7 ⟨()⟩))))) (dX jL) eZ) (eC (eK 1 (ny Y0 (eV [32])) UI.nd) (eC (eX (tW (iU (eW l6 (fX (kX (K:=K)) ZZ.ao PySem.boot_len (A1 Y1)) (fE (v:=.int 5) ZZ.f1 ⟨()⟩)) (jB (eW (p8 (K:=K)) (eV []) Y1)))) (dX jL) eZ) (dX (eF (j2 ZZ.ad (Tp ZZ) hr (A1 (NY ["place","word"] [] [] (iE ZZ.az Y1) (λ_ _ _ _ _ _=>oF (K:=K) (n:=2) (jE (gN 0 (show ((["place","word"]:List Str)++([]:List Str)).Nodup by decide +kernel)) (jE (gN 1 (show ((["place","word"]:List Str)++([]:List Str)).Nodup by decide +kernel)) mK))) (λ_ _ _ _ _ _=>iq) (λ_ _ _ _ _ _=>(eD (XW ZZ) hr (A2 Y1 Y0))))))))))),?_⟩
 extract_lets;have n32:∀w∈[w0,w1,w2,w3,w4],32∉w:=λw hw=>by
  simp only[bA,c9,or_false] at hw;rcases hw with rfl | rfl | rfl | rfl | rfl
  ·exact f0.sp
  ·exact f1.sp
  ·exact d2.1.1
  ·exact f3.sp
  ·exact d4.1.1
 have nn:∀w∈[w0,w1,w2,w3,w4],w≠[]:=λw hw=>by
  simp only[bA,c9,or_false] at hw;rcases hw with rfl | rfl | rfl | rfl | rfl
  ·exact f0.ne
  ·exact f1.ne
  ·exact d2.1.2
  ·exact f3.ne
  ·exact d4.1.2
 have hs:=p4 32 [w0,w1,w2,w3,w4] (cD _ _) n32;obtain⟨L,eL⟩:∃L,L=gT 32 [w0,w1,w2,w3,w4]:=⟨()⟩;have hl:L.length<=1600:=by
  have:=f0.len;have:=f1.len;have:=f3.len;have:=d2.2.1.len;have:=d4.2.1.len;rw[eL];show (w0++32::(w1++32::(w2++32::(w3++32::w4)))).length<=1600;simp only[aZ,bX];omega
 rw[←eL] at hs ⊢;refine⟨(),_,.str,.str,rfl,(by decide),rfl,(),iJ rfl ⟨(),L,rfl,(by rw[dI];omega),(()),(),?_⟩⟩;rw[dP (show ¬(1600:Int)<((L.length:Nat):Int) by omega)];refine fK ⟨(),rfl,L,32,rfl,rfl,(by rw[dI];omega),λps hps=>?_⟩;rw[hs];have s0:=eE hps (.lst ([w0,w1,w2,w3,w4].map λq=>V.str (Tx q)));refine⟨(),ps,(),.inl (SqL.of dY),rfl,(),wR rfl ⟨(),ps,(),.inl (SqL.of dY),rfl,rfl,(),?_⟩⟩;show if j7 (.str (Tx [])) ([w0,w1,w2,w3,w4].map λq=>V.str (Tx q))=true then _ else _
 rw[aEF nn];refine fK ⟨(),ps,rfl,⟨_,SqL.of dY⟩,OS (xs:=[w0,w1,w2,w3,w4].map λq=>V.str (Tx q)) (λD i l HZ=>i=0/\l=[]∨(∃l',HZ D=some (.lst l'))/\RRf (⟨aD,aF,aG,aI,aE,aA,aH,aJ⟩:Cs) H m0 m1 m3 (gO false kd) (gO true kw) D i l HZ) ?u1 ?u2 (zL 5) (λD _=>.inl ⟨rfl,rfl⟩) (SqL.of dY) ?st ?dn⟩
 case u1=>
  rintro D i l HX l' (h | ⟨hl,h⟩)
  ·exact .inl h
  ·exact .inr ⟨⟨_,dY⟩,h.upd hl⟩
 case u2=>
  rintro D i l HX HY s (h | ⟨⟨l',hl⟩,h⟩)
  ·exact .inl h
  ·exact .inr ⟨⟨l',s _ _ hl⟩,h.keep s⟩
 case st=>
  intro i x l D H2 E' F' hx hR hD s2 hz hE hF;have hR':RRf (⟨aD,aF,aG,aI,aE,aA,aH,aJ⟩:Cs) H m0 m1 m3 (gO false kd) (gO true kw) D i l H2:=by
   rcases hR with ⟨rfl,rfl⟩ | h
   ·rfl
   ·exact h.2
  have up:∀{H5:Hp},Same H2 H5->∃l',H5 D=some (.lst l'):=λs=>⟨_,s _ _ hz⟩;have fr:∀{p:Addr},H2 p=none->p≠D:=λh e=>by rw[e,hz] at h;cases h
  match i,hx,hR' with
  |0,hx,e=>cases hx;exact⟨(),(),w0,0,rfl,.inr (.inr ⟨0,59,m0,.inl ⟨rfl,rfl,rfl⟩,f0,λH' s'=>hE _ _ s' (.inr ⟨up s',by rw[e];rfl⟩)⟩)⟩
  |1,hx,e=>cases hx;exact⟨(),(),w1,1,rfl,.inr (.inr ⟨0,23,m1,.inr (.inl ⟨rfl,rfl,rfl⟩),f1,λH' s'=>hE _ _ s' (.inr ⟨up s',by rw[e];rfl⟩)⟩)⟩
  |2,hx,e=>cases hx;exact⟨(),(),w2,2,rfl,.inl ⟨rfl,kd,d2,λv H' s' hv hn=>hE _ _ s' (.inr ⟨up s',v,by rw[e];rfl,hv,λp ep=>⟨fr (hn p ep),(s0.trans s2).none (hn p ep)⟩⟩)⟩⟩
  |3,hx,⟨dv,e,hd⟩=>cases hx;exact⟨(),(),w3,3,rfl,.inr (.inr ⟨1,12,m3,.inr (.inr ⟨rfl,rfl,rfl⟩),f3,λH' s'=>hE _ _ s' (.inr ⟨up s',dv,by rw[e];rfl,hd.keep s'⟩)⟩)⟩
  |4,hx,⟨dv,e,hd⟩=>cases hx;exact⟨(),(),w4,4,rfl,.inr (.inl ⟨rfl,kw,d4,λv H' s' hv hn=>hE _ _ s' (.inr ⟨up s',dv,v,by rw[e];rfl,hd.keep s',hv,λp ep=>⟨fr (hn p ep),(s0.trans s2).none (hn p ep)⟩⟩)⟩)⟩
  |i+5,hx,_=>cases hx
 case dn=>
  intro D H2 l hR hD s2 hz;rcases hR with ⟨e,_⟩ | ⟨_,hR⟩
  ·cases e
  obtain⟨dv,wv,rfl,hd,hw⟩:=hR;intro x dx nx ndx nex;have n1:=ky (a:=.own x) (b:=.ins aB dx []) nx ndx;refine⟨x,dx,D,m0,m1,m3,dv,wv,rfl,dY,n1 _ _ hz,⟨f0.nn,hb.1⟩,⟨f1.nn,hb.2⟩,λtm H' htm hx' hs'=>⟨rfl,?_⟩⟩;have sX:Same H2 H':=λb o hb'=>hs' b o (n1 _ _ hb') (λe=>by rw[e,nx] at hb';cases hb');exact q x dx dv wv tm H' htm (s0.trans (s2.trans sX)) hx' (hd.1.keep sX) (hw.1.keep sX) ⟨(s0.trans s2).none nx,λp e=>(hd.2 p e).2,λp e=>(hw.2 p e).2⟩
theorem asK:Dm P w mg base ZZ.fn 1 (QC K aB):=by
 refine ZZ.fn.dfs NU (by trivial) ?_;rintro _ _ _ _ s H _ Q E hr⟨p,dx,m0,m1,m3,tm,dv,wv,rfl,hp,q⟩;refine⟨_,(dX (eF (hZ (K:=K) Y0))),?_⟩;exact⟨(),p,aB,dx,_,(),hp,ZZ.ad.cl,ZZ.ay,Iy ..,q⟩
theorem JV:Dm P w mg base ZZ.eh 7 (SO K aB aD aF aG aI aE aA aH aJ):=by
 refine ZZ.eh.dfs U3 (by trivial) ?_;rintro _ _ _ _ s H _ Q E hr⟨p,dx,m0,m1,m3,tm,mo,dv,wv,kd,kw,rfl,hp,hn,hd,hw,q⟩;refine⟨_,(eC (eK 2 (eD (Zm ZZ) hr (A1 Y1)) U3.nd) (eC (eK 3 (eD (tU ZZ) hr (A1 (eO (fN (K:=K)) Y2 eI))) U3.nd) (eC (eX (iI (gY (eD (mF ZZ) hr (A2 (hZ (K:=K) Y0) (eO (fN (K:=K)) Y3 eI))))) (dX (eF (eV [109,111,110,116,104]))) eZ) (eC (eX (iI (gY (eD (mF ZZ) hr (A2 (jm ZZ.ad.cl (vk ZZ) hr Y0 (A1 (eD (BC ZZ) hr (A2 (eO (fN (K:=K)) Y3 eI) (eO (fN (K:=K)) Y3 eI))))) (eO (fN (K:=K)) Y3 eI))))) (dX (eF (eV [100,97,121]))) eZ) (eC (eX (iI (gY (eD (mF ZZ) hr (A2 (hZ (K:=K) Y0) (eO (fN (K:=K)) Y2 eI))))) (dX (eF (eV [104,111,117,114]))) eZ) (eC (eX (iI (gY (eD (mF ZZ) hr (A2 (hZ (K:=K) Y0) (eO (fN (K:=K)) Y2 eI))))) (dX (eF (eV [109,105,110,117,116,101]))) eZ) (dX (eF eN)))))))),?_⟩
 extract_lets;refine⟨(),mo,rfl,λt H1 s1 h1=>⟨(),t,_,(()),SqT.of (h1),rfl,(),λy m k t2 H2 ok e s2 h2=>?_⟩⟩;have s12:=s1.trans s2;have hp2:=s12 _ _ hp;have q':=q y m k;refine⟨(),p,aB,dx,_,(),hp2,ZZ.ad.cl,ZZ.au,Fi ..,(),t2,_,(()),SqT.of (h2),rfl,m3,m,rfl,⟨hn.2.2,by have:=ok.1;omega⟩,(),?_⟩;cases c1:tb m3 m.toNat with
 |false=>
  have z:=q' H2 ok e s12;rw[uT c1] at z;exact fR z
 |true=>
  have mk:=m9 (y:=y) ok.1.1 ok.1.2;have kl:=qI (y:=y) ok.1.1 ok.1.2;refine fK ⟨(),p,dx,(),hp2,zZ ..,(),t2,_,(()),SqT.of (h2),rfl,(),t2,_,(()),SqT.of (h2),rfl,y,m,rfl,ok.1,λH3 s3=>?_⟩;refine⟨p,dx,m0,m1,m3,tm,kindOf y m,dv,wv,kd,kw,rfl,s3 _ _ hp2,kl,hn.2.2,hd.keep (s12.trans s3),hw.keep (s12.trans s3),λH4 s4=>?_⟩;rw[mk.1,mk.2,if_pos c1,qv ok e];have s24:=s3.trans s4;have sA:=s12.trans s24;refine⟨(),t2,_,(()),SqT.of (s24 _ _ h2),rfl,_,k,rfl,⟨D4 (GQ ok) (rZ hd) (rZ hw),by have:=ok.2.1;omega⟩,(),?_⟩
  cases c2:tb (iQ kd kw (fC y m) ((mo / 1440-k+1+6)%7)) k.toNat with
  |false=>
   have z:=q' H4 ok e sA;rw[Cp c1 c2] at z;exact fR z
  |true=>
   refine fK ⟨(),p,aB,dx,_,(),s24 _ _ hp2,ZZ.ad.cl,ZZ.ax,Kq ..,(),t,_,(()),SqT.of ((s2.trans s24) _ _ h1),rfl,m1,(),⟨hn.2.1,⋯⟩,(),?_⟩;cases c3:tb m1 (mo%1440 / 60).toNat with
   |false=>
    have z:=q' H4 ok e sA;rw[CQ c1 c2 c3] at z;exact fR z
   |true=>
    refine fK ⟨(),p,aB,dx,_,(),s24 _ _ hp2,ZZ.ad.cl,ZZ.as,Ge ..,(),t,_,(()),SqT.of ((s2.trans s24) _ _ h1),rfl,m0,(),⟨hn.1,⋯⟩,(),?_⟩;cases c4:tb m0 (mo%1440%60).toNat with
    |false=>
     have z:=q' H4 ok e sA;rw[zk c1 c2 c3 c4] at z;exact fR z
    |true=>
     have z:=q' H4 ok e sA;rw[Av c1 c2 c3 c4] at z;exact fK z
theorem GH:Dm P w mg base ZZ.fo 8 (Yr K aB aD aF aG aI aE aA aH aJ):=by
 refine ZZ.fo.dfs RQ (by trivial) ?_;rintro _ _ _ _ s H _ Q E hr⟨p,dx,m0,m1,m3,tm,mo,dv,wv,kd,kw,rfl,hp,hn,hd,hw,q⟩;refine⟨_,(dX (eF (iD jA (jm ZZ.ad.cl (JV ZZ) hr Y0 (A1 Y1)) eN))),?_⟩;exact⟨(),p,dx,(),hp,HP ..,(),p,dx,m0,m1,m3,tm,mo,dv,wv,kd,kw,rfl,hp,hn,hd,hw,λy m k H' ok e s=>⟨rfl,q y m k H' ok e s⟩⟩
theorem Vs:Dx P w base ZZ.e4 1 (Py K):=by
 refine ZZ.e4.dfs Xd (by trivial) ?_;rintro _ _ _ _ s H _ Q E hr⟨N,rfl,q⟩;refine⟨_,(eC (eX (eW fU Y1 eI) (dX (eF (ij (A2 (dZ fG Y0 eI) eI)))) eZ) (dX (eF (ij (A2 Y0 (dZ fG Y1 eI)))))),?_⟩;extract_lets;refine⟨(),rfl,(),gX (λc=>?_) (λc=>?_)⟩
 ·refine⟨(),(()),(zL 2),λt ht=>q t _ (eE ht _) ?_⟩;rw[show (N+1) / 12=N / 12+1 by omega,show (N+1)%12+1=1 by omega];exact dY
 ·refine⟨(),(),(()),(zL 2),λt ht=>q t _ (eE ht _) ?_⟩;rw[show (N+1) / 12=N / 12 by omega,show (N+1)%12+1=N%12+1+1 by omega];exact dY
theorem W9:Dx P w base ZZ.gc 5 (LF K):=by
 refine ZZ.gc.dfs Ux (by trivial) ?_;rintro _ _ _ _ s H _ Q E hr⟨mo,rfl,q⟩;refine⟨_,(eC (eK 1 (eD (tU ZZ) hr (A1 (dZ jO Y0 (fE (v:=.int 1440) ZZ.af ⟨()⟩)))) Ux.nd) (dX (eF (ij (A2 (eO (fN (K:=K)) Y1 eI) (eO (fN (K:=K)) Y1 eI)))))),?_⟩;extract_lets;refine⟨(),(()),⟨by decide,by decide⟩,mo / 1440,rfl,λy m k p H1 ok e s1 hp=>?_⟩;refine⟨(),p,_,(()),SqT.of hp,rfl,(),p,_,(()),SqT.of hp,rfl,(zL 2),λt ht=>?_⟩
 have hm:=ok.1;have e1:(12*y+m-1) / 12=y:=⋯;have e2:(12*y+m-1)%12+1=m:=⋯;have u:=lY (12*y+m-1);unfold lU at u;have d:ie (12*y+m-1)=db y+ahead y m:=by unfold ie;rw[e1,e2]
 rw[e1,e2,d] at u;have hk:=ok.2;have e':db y+ahead y m+k-1=mo / 1440:=e;refine q (12*y+m-1) t _ (s1.trans (eE ht _)) (by rw[d];omega) (by rw[u];omega) ?_;rw[e1,e2];exact dY
theorem MW:Dx P w base ZZ.e5 1 (Qe K):=by
 refine ZZ.e5.dfs Uv (by trivial) ?_;rintro _ _ _ _ s H _ Q E hr⟨d,ts,rfl,hS,hl,ht,q⟩;refine⟨_,(eC (eK 1 eI Uv.nd) (eC (j9 (iE ZZ.az Y0) (oF (K:=K) (jE (gN 2 Uv.nd) (jE (gN 3 Uv.nd) mK))) (dX (eK 1 (dZ lN Y1 (dZ VE Y3 (dZ iW (fE (v:=.int 1440) ZZ.af ⟨()⟩) Y2))) Uv.nd)) PassesOwn.never) (dX (eF Y1)))),?_⟩;extract_lets;refine⟨(),d,rfl,⟨_,hS⟩,uy (K:=K) (a:=d) (xs:=ts.map V.int) (λi σ H2=>∃(u1 u2:Option V),σ=[some (.ref d),some (.int (lu (λj=>ts.getD j 0) i)),u1,u2]/\Same H H2) ⟨_,(),Same.refl _⟩ (λi σ H2 _ ⟨_,_,_,s2⟩=>s2.seq hS) ?_ ?_⟩
 ·rintro i x σ H2 T hx ⟨u1,u2,rfl,s2⟩ hT;rw[bN] at hx;cases ew:ts[i]? with
  |none=>rw[ew] at hx;cases hx
  |some z=>
   rw[ew] at hx;obtain rfl:V.int z=x:=bF hx;have hz:=ht z (bU ew);have hi:=(cT.mp ew).1;have ez:ts.getD i 0=z:=by rw[List.getD_eq_getElem?_getD,ew];rfl
   have ee:lu (λj=>ts.getD j 0) (i+1)=Builtin.bitOr (lu (λj=>ts.getD j 0) i) (z*2^(1440*i)):=by
    show Builtin.bitOr _ (ts.getD i 0*_)=_;rw[ez]
   refine⟨T,(),SqT.of dY,rfl,_,(),(()),?_⟩;refine⟨(),(),(),(()),.inl ⟨by decide,by decide⟩,(()),⟨⋯,⋯,?_⟩,(()),?_⟩
   ·have:=hz.1;have:=hz.2;have e:((z.natAbs:Nat):Int)<((2^1440:Nat):Int):=by rw[jG];omega
    exact Int.ofNat_lt.mp e
   ·rw[show (1440*(i:Int)).toNat=1440*i by omega];exact⟨_,_,by rw[ee];rfl,s2.trans (eE hT _)⟩
 ·rintro σ H2 ⟨u1,u2,rfl,s2⟩;rw[aY];exact⟨(),q H2 s2⟩
theorem Jh:Dx P w base ZZ.g2 1 (azK K):=by
 refine ZZ.g2.dfs NA (by trivial) ?_;rintro _ _ _ _ s H _ Q E hr⟨m,k,rfl,hm,hk,hj,q⟩;refine⟨_,(dX (eF (dZ gW (G3 (dZ pR Y0 (lg k9 Y0))) eI))),?_⟩;refine⟨(),(),(),(()),rfl,(),rfl,(()),?_⟩;show Q (.int (((Builtin.Int.intBits (Builtin.bitAnd m (-m)):Nat):Int)-1)) H;rw[Pn hm hk hj,PD,show (((k+1:Nat):Int)-1)=k by omega];exact q
theorem Zy:Dx P w base ZZ.dk 7 (LC K aD aF aG aI aE aA aH aJ aB):=by
 refine ZZ.dk.dfs Us (by trivial) ?_;rintro _ _ _ _ s H _ Q E hr⟨p,dx,m0,m1,m3,tm,d,dv,wv,kd,kw,rfl,hp,hn,hd,hw,hsh,q⟩;refine⟨_,(eC (eK 2 (eD (tU ZZ) hr (A1 Y1)) Us.nd) (eC (eK 3 (eD (BC ZZ) hr (A2 (eO (fN (K:=K)) Y2 eI) (eO (fN (K:=K)) Y2 eI))) Us.nd) (eC (eK 4 (dZ oO (jm ZZ.ad.cl (vk ZZ) hr Y0 (A1 Y3)) (eO (fN (K:=K)) Y2 eI)) Us.nd) (eC (eX (eW fU Y4 eI) (dX (eF (dZ gW (dZ fG Y1 (eO (fN (K:=K)) (eD (zY ZZ) hr (A1 Y3)) eI)) (eO (fN (K:=K)) Y2 eI)))) eZ) (dX (eF (dZ gW (dZ fG Y1 (eD (Jh ZZ) hr (A1 Y4))) eI))))))),?_⟩
 extract_lets;refine⟨(),d,rfl,λy m k t H1 ok e s1 h1=>?_⟩;have mk:=m9 (y:=y) ok.1.1 ok.1.2;have kl:=qI (y:=y) ok.1.1 ok.1.2;refine⟨(),t,_,(()),SqT.of (h1),rfl,(),t,_,(()),SqT.of (h1),rfl,y,m,rfl,ok.1,λH2 s2=>?_⟩;have s12:=s1.trans s2;refine⟨(),p,dx,(),s12 _ _ hp,zZ ..,(),p,dx,m0,m1,m3,tm,kindOf y m,dv,wv,kd,kw,rfl,s12 _ _ hp,kl,hn.2.2,hd.keep s12,hw.keep s12,λH3 s3=>?_⟩;have s13:=s12.trans s3;rw[mk.1,mk.2,qv ok e]
 obtain⟨D,eD⟩:∃D,D=(if tb m3 m.toNat=true then iQ kd kw (fC y m) ((d-k+1+6)%7) else 0):=⟨()⟩;rw[←eD];have D0:0<=D/\tb D k.toNat=false:=by
  rw[eD];split
  ·rename_i c;exact⟨D4 (GQ ok) (rZ hd) (rZ hw),hsh y m k ok e c⟩
  ·exact⟨bB 0,ji _⟩
 have hk:=ok.2;refine⟨(),t,_,(()),SqT.of ((s2.trans s3) _ _ h1),rfl,(()),(by show (0:Int)<=k;omega),?_⟩;refine⟨(),rfl,(),gX (λc=>?_) (λc=>?_)⟩
 ·refine⟨(),(),kindOf y m,rfl,kl,λt2 H4 s4 h4=>?_⟩;rw[qX,mk.1,mk.2] at h4;exact⟨t2,_,(()),SqT.of h4,rfl,(()),(),t,_,(()),SqT.of ((s2.trans (s3.trans s4)) _ _ h1),rfl,(()),q _ _ ⋯ (s13.trans s4)⟩
 ·have X0:0<D / 2^k.toNat:=by
   have:0<=D / 2^k.toNat:=c6 D0.1 (b8 (jp _));omega
  obtain⟨l,hl,hj⟩:=Jp X0;have l1:1<=l:=by
   rcases Nat.eq_zero_or_pos l with z | z
   ·rw[z,nJ D0.1,Nat.add_zero,D0.2] at hl;cases hl
   ·exact z
  exact⟨(),(),_,l,rfl,X0,hl,hj,(()),(()),q _ _ ⋯ s13⟩
theorem Nt:Dx P w base ZZ.gd 8 (as4 K aD aF aG aI aE aA aH aJ aB):=by
 refine ZZ.gd.dfs Nk (by trivial) ?_;rintro _ _ _ _ s H _ Q E hr⟨p,dx,tw,m0,m1,m3,tm,d,dv,wv,kd,kw,rfl,hp,hn,hd,hw,hsh,q⟩;refine⟨_,(eC (eX (eW fU Y2 (eV [109,105,110,117,116,101])) (dX (eF Y1)) eZ) (eC (eX (eW fU Y2 (eV [104,111,117,114])) (dX (eF (dZ gW (dZ fG (dZ gW Y1 (dZ ig Y1 (fE (v:=.int 60) ZZ.an ⟨()⟩))) (fE (v:=.int 60) ZZ.an ⟨()⟩)) eI))) eZ) (dX (eF (dZ gW (dZ fG (dZ iW (fE (v:=.int 1440) ZZ.af ⟨()⟩) (eD (Zy ZZ) hr (A2 Y0 (dZ jO Y1 (fE (v:=.int 1440) ZZ.af ⟨()⟩))))) (fE (v:=.int 1440) ZZ.af ⟨()⟩)) eI))))),?_⟩
 extract_lets;refine⟨(),rfl,(),lI (λc=>?_) (λc=>?_)⟩
 ·exact⟨(),q _ _ (bB _) (λz=>absurd c z) (Same.refl _)⟩
 refine⟨(),rfl,(),lI (λc2=>?_) (λc2=>?_)⟩
 ·exact⟨(),(),(()),(by show (0:Int)<60;decide),(()),(()),(()),q _ _ ⋯ (λ_=>by omega) (Same.refl _)⟩
 ·exact⟨(),(),(()),⟨by decide,by decide⟩,p,dx,m0,m1,m3,tm,d / 1440,dv,wv,kd,kw,rfl,hp,hn,hd,hw,hsh c c2,λr H1 hr1 s1=>⟨(()),.inl ⟨by decide,by decide⟩,(()),(()),q _ _ ⋯ (λ_=>by omega) s1⟩⟩
theorem WE:Dx P w base ZZ.ei 1 (amF K):=by
 refine ZZ.ei.dfs MJ (by trivial) ?_;rintro _ _ _ _ s H _ Q E hr⟨p,vs',sts,a,b,tm,rfl,hp,hP,hl,q⟩;refine⟨_,(dX (eX (tW (mP (eW (vD hr.units) Y0 (gC aN)) (og (eW fU (eO (fN (K:=K)) (eO (fV (K:=K)) Y0 (lg k9 eI)) eI) Y3)))) (dX (pX (ij (A3 (eO (fN (K:=K)) (eO (fV (K:=K)) Y0 (lg k9 eI)) eI) Y2 Y3)) (JE Y0 (lg k9 eI)))) (dX (lO (n6 Y0 (ij (A3 Y1 Y2 Y3))))))),?_⟩;refine⟨(),(zL 0),λl hl0=>⟨p,l,vs',rfl,rfl,SqL.of ((eE hl0 _) _ _ hp),SqL.of dY,(),?_⟩⟩
 have s0:=eE hl0 (.lst []);have hp0:=s0 _ _ hp;have app:∀{H1:Hp} (t:Addr),Same H H1->H1 t=none->∀z:jV,Paired (nL (upd (upd H1 t (.tup [.int z.1,.int z.2.1,.str (Tx z.2.2)])) p (.lst (vs'++[.ref t])))) (vs'++[.ref t]) (sts++[z]):=λ{H1} t s1 ht z=>by
  have tp:t≠p:=λe=>by rw[e,s1 _ _ hp] at ht;cases ht
  have g:∀b xs,H b=some (.tup xs)->upd (upd H1 t (.tup [.int z.1,.int z.2.1,.str (Tx z.2.2)])) p (.lst (vs'++[.ref t])) b=some (.tup xs):=λb xs hb=>by
   rw[eQ (λe=>by rw[e,hp] at hb;cases hb)];exact (s1.trans (eE ht _)) _ _ hb
  exact nC (Paired.mapP hP λ_ _ y=>BV g y) ⟨t,rfl,by rw[eQ tp,dY]⟩
 have oth:∀{H1:Hp} (t:Addr) (o u:HO),Same H H1->H1 t=none->∀q o',q≠p->H q=some o'->upd (upd H1 t o) p u q=some o':=λ{H1} t o u s1 ht q o' nq hq=>by
  rw[eQ nq];exact (s1.trans (eE ht o)) _ _ hq
 by_cases c:vs'=[]
 ·subst c;cases hP;refine fK (fK ⟨(),.inl ⟨rfl,_,SqL.of hp0⟩,(),(),(),(zL 3),λt ht=>⟨p,(()),(eE ht _) _ _ hp0,(by show 0<sizeLine;decide),q _ _ dY (app t s0 ht (a,b,tm)) (oth t _ _ s0 ht)⟩⟩)
 obtain⟨l0,v,rfl⟩:=P2 c;obtain⟨st0,z,rfl,hP0,t0,rfl,ht0⟩:=Iu hP;rw[JR] at q;rw[dN c];have ht00:=s0 _ _ ht0;refine fR ⟨(),(),p,_,(()),SqL.of hp0,JB,t0,_,(()),SqT.of ht00,rfl,(),rfl,(),lI (λce=>?_) (λce=>?_)⟩
 ·rw[if_pos ce] at q;refine⟨(),(),p,_,(()),SqL.of hp0,JB,t0,_,(()),SqT.of ht00,rfl,(),(),(zL 3),λt ht=>?_⟩;have s1:=eE ht (.tup [.int z.1,.int b,.str (Tx tm)]);have tp:t≠p:=λe=>by rw[e,hp0] at ht;cases ht
  refine⟨(),(),p,_,(()),s1 _ _ hp0,aFF,?_⟩;rw[ZL];have g:∀b' xs,H b'=some (.tup xs)->upd (upd (upd H l (.lst [])) t (.tup [.int z.1,.int b,.str (Tx tm)])) p (.lst (l0++[.ref t])) b'=some (.tup xs):=λb' xs hb=>by
   rw[eQ (λe=>by rw[e,hp] at hb;cases hb)];exact (s0.trans s1) _ _ hb
  exact q _ _ dY (nC (Paired.mapP hP0 λ_ _ y=>BV g y) ⟨t,rfl,by rw[eQ tp,dY]⟩) (oth t _ _ s0 ht)
 ·rw[if_neg ce] at q;exact⟨(),.inl ⟨rfl,_,SqL.of hp0⟩,(),(),(),(zL 3),λt ht=>⟨p,(()),(eE ht _) _ _ hp0,(by rw[dI];omega),q _ _ dY (app t s0 ht (a,b,tm)) (oth t _ _ s0 ht)⟩⟩
theorem as1:Dx P w base ZZ.ge 9 (Q8 K aD aF aG aI aE aA aH aJ aB):=by
 refine ZZ.ge.dfs UA (by trivial) ?_;rintro _ _ _ _ s H _ Q E hr⟨p,b,e,m0,m1,m3,kd,kw,rfl,hR,hE,hbe,q⟩;refine⟨_,(eC (eK 3 (gC aN) UA.nd) (eC (eK 4 Y1 UA.nd) (eC (vg (eW kQ Y4 Y2) (eC (eK 5 (jm ZZ.ad.cl (JV ZZ) hr Y0 (A1 Y4)) UA.nd) (eC (eK 6 (fX AJ ZZ.ha PyProof.Rows.boot_min (A2 (eD (Nt ZZ) hr (A3 Y0 Y4 Y5)) Y2)) UA.nd) (eC (lO (eD (WE ZZ) hr (aC Y3 (A3 Y4 Y6 Y5)))) (dX (eK 4 (dZ fG Y6 eI) UA.nd))))) PassesOwn.never) (dX (eF Y3))))),?_⟩
 extract_lets;have hg:=hR.ok;obtain⟨dx,dv,wv,hp,hn,hb,hd,hw⟩:=hR;refine⟨(zL 0),λl hl=>⟨(),?_⟩⟩;refine uB (λσ H2=>∃(mo:Int) (us:List V) (sts:List jV) (u5 u6:Option V),σ=[some (.ref p),some (.int b),some (.int e),some (.ref l),some (.int mo),u5,u6]/\H2 l=some (.lst us)/\Paired (nL H2) us sts/\Same H H2/\b<=mo/\(mo<=e->(sts.length:Int)<=2*(mo / 60-b / 60)+ke sts)) (λσ _=>match σ[4]? with | some (some (V.int mo))=>(e+1-mo).toNat | _=>0) ⟨b,[],[],_,(),dY,.nil,eE hl _,bB _,λ_=>by rw[Int.sub_self];decide⟩ ?_
 rintro σ H2 ⟨mo,us,sts,u5,u6,rfl,h2,hP,s2,hbm,hlen⟩;refine⟨(),(),(()),(),il (λc=>?_) (λc=>?_)⟩
 ·refine⟨_,λ_ _ h=>h,?_⟩;refine⟨(),p,dx,(),s2 _ _ hp,HP ..,(),p,dx,m0,m1,m3,hV m1 m0,mo,dv,wv,kd,kw,rfl,s2 _ _ hp,hn,hd.keep s2,hw.keep s2,λy m k H3 ok ed s3=>?_⟩;have s23:=s2.trans s3;obtain⟨tw,etw,hday⟩:=TH (λz=>hE mo hbm c (QJ hn hb hg ok ed z));rw[etw];refine⟨(),(),(),p,dx,tw,m0,m1,m3,hV m1 m0,mo,dv,wv,kd,kw,rfl,s23 _ _ hp,hn,hd.keep s23,hw.keep s23,λn1 n2 y' m' k' ok' e' h3=>?_,λr H4 hr1 hr2 s4=>⟨(),_,(),?_⟩⟩
  ·obtain⟨rfl,rfl,rfl⟩:=ux ok ok' (ed.trans e'.symm);exact hday n1 n2 h3
  obtain⟨la,ela⟩:∃la,la=if e<r then e else r:=⟨()⟩
  show jy _ (V.int (if e<r then e else r)) _ _ _;rw[←ela];have hla:mo<=la/\la<=e/\(la<e->la=r):=by
   rw[ela];split<;>omega
  have hlen':=hlen c;have pl:=Fd hP;have l1:=Hj sts;have g34:∀b' xs,H2 b'=some (.tup xs)->H4 b'=some (.tup xs):=λb' xs z=>s4 _ _ (s3 _ _ z);refine⟨(),(),(),(),l,us,sts,mo,la,tw,rfl,s4 _ _ (s3 _ _ h2),Paired.mapP hP (λ_ _ z=>BV g34 z),⋯,λH5 us' h5 hP5 oth=>?_⟩;refine⟨(),(()),?_⟩;refine⟨_,(by show (e+1-(la+1)).toNat<(e+1-mo).toNat;omega),rfl,la+1,us',_,_,(),h5,hP5,λq' o hq=>oth q' o (λz=>by rw[z,hl] at hq;cases hq) (s4 _ _ (s23 _ _ hq)),⋯,λz=>aBG hlen' hla.1 λn=>?_⟩
  have:=hr2 n;have:=hla.2.2 ⋯;omega
 ·exact⟨(),q l H2 s2⟩
theorem Lb:Dm P w mg base ZZ.ej 7 (Ji K aB aD aF aG aI aE aA aH aJ):=by
 refine ZZ.ej.dfs U2 (by trivial) ?_;rintro _ _ _ _ s H _ Q E hr⟨p,dx,m0,m1,m3,tm,k,dv,wv,kd,kw,rfl,hp,hk,hm,hd,hw,q⟩;refine⟨_,(iN (eK 2 (jm ZZ.ad.cl (vk ZZ) hr Y0 (A1 Y1)) U2.nd) (iN (eK 3 (eO (fN (K:=K)) (eD (zY ZZ) hr (A1 Y1)) eI) U2.nd) (dX (eF (i9 ["days","self"] [2,0] (Ha ZZ.ar (A2 eI (dZ fG Y3 eI))) (λ_ _ _ _ _ _=>iq) (λ_ _ _ _ _ _=>(lC (gY (eD (mF ZZ) hr (A2 Y1 Y0))) (hZ (K:=K) Y2) eI))))))),?_⟩
 extract_lets;refine⟨λσ' H'=>σ'=[some (.ref p),some (.int k),some (.int (kS m3 kd kw k)),none]/\Same H H',⟨(),p,dx,(),hp,zZ ..,(),p,dx,m0,m1,m3,tm,k,dv,wv,kd,kw,rfl,hp,hk,hm,hd,hw,λH1 s1=>⟨rfl,s1⟩⟩,?_⟩;rintro σ' H1 ⟨rfl,s1⟩;have ml:=(pB hk.1 hk.2).2.1;refine⟨λσ' H'=>σ'=[some (.ref p),some (.int k),some (.int (kS m3 kd kw k)),some (.int (iO k))]/\Same H1 H',⟨(),k,rfl,hk,λt H2 s2 h2=>⟨t,_,(()),SqT.of (by rw[qX] at h2;exact h2),rfl,rfl,s2⟩⟩,?_⟩
 rintro σ' H2 ⟨rfl,s2⟩;refine⟨(),(()),_,(),⟨by decide,by decide,⋯,⋯⟩,xq (λi l=>l=((List.range i).map (i8 tm m3 kd kw k)).map V.int) (by show (iO k+1-1).toNat<=sizeLine;rw[dI];omega) rfl ?_ ?_⟩
 ·intro i l D H3 E' F' hi hR hD s3 hl hE hF;subst hR;have hp3:=(s1.trans (s2.trans s3)) _ _ hp;have et:(1+(i:Int)).toNat=i+1:=⋯;have eY:∀v:Int,v=i8 tm m3 kd kw k i->E' (.int v) H3:=λv ev=>hE _ _ (Same.refl _) (by rw[ev,List.range_succ,a8,a8];rfl);refine⟨(),(),kS m3 kd kw k,(),⟨Rb hd hw hk.1 hk.2,⋯⟩,(),?_⟩;rw[et];by_cases c:tb (kS m3 kd kw k) (i+1)=true
  ·rw[c];exact fR ⟨(),p,aB,dx,_,(),hp3,ZZ.ad.cl,ZZ.ay,Iy ..,eY tm (by unfold i8;rw[if_pos c])⟩
  ·rw[show tb (kS m3 kd kw k) (i+1)=false by simpa using c];exact fK (eY 0 (by unfold i8;rw[if_neg c]))
 ·intro D H3 l hR hD s3 hl;subst hR;refine q D H3 ((s1.trans s2).none hD) (s1.trans (s2.trans s3)) ?_;rw[hl];unfold jJ;rw[show (iO k+1-1).toNat=(iO k).toNat by omega]
theorem VG{HA:Hp}{f c' a p:Addr}{qual:Str}{params:Arguments}{body:Expr}{scope:Scope}{pm ctv:Value}{o0:Obj}{u0:Value}{m0 m1 m3:Int}{kd kw:Ko}(S:ix "kind" "row" scope)
  (hb:∀(s:Shared) (u:Value),BindsTo s (PySem.W.kla_fn "<lambda>" qual params body scope [("row",a)] pm (.ref c') ctv) ⟨[u],[]⟩ [("kind",u)])
  (hB:∀(A:Around) (outer:List Env) (s:Shared) (H1:Hp),Room 7 (jS P w K mg base ["kind","row"] qual scope s.heap.objs.size f c' [("row",a)] A outer s H1).A->L2.E (jS P w K mg base ["kind","row"] qual scope s.heap.objs.size f c' [("row",a)] A outer s H1) body (oi aB "on_days" (Ji K aB aD aF aG aI aE aA aH aJ) [] E0 (mE 1) (ju (mE 0) jt)))
  (hf:HA f=some (ik f (nZ qual params body scope "row" a pm c' ctv))) (hc:HA c'=some (lh c' qual)) (ha:HA a=some (ik a o0)) (ho:o0.data=.cell (some u0)) (r0:RelV (.ref p) u0)
  (hR:RowR (⟨aD,aF,aG,aI,aE,aA,aH,aJ⟩:Cs) aB (hU HA a) p m0 m1 m3 kd kw):Bj P w K mg base 8 HA f (i8 (hV m1 m0) m3 kd kw):=by
 refine⟨⟨_,_,_,_,hf⟩,λH1 k Q s1 k0 k1 q=>?_⟩;intro A outer s us hr e0 rv;obtain⟨u,rfl,ru⟩:∃u,us=[u]/\RelV (.int k) u:=by
  cases rv with
  |cons r rn=>cases rn;exact⟨(),r⟩
 obtain⟨dx,dv,wv,hp,hn,hb2,hd,hw⟩:=hR;have se:Same (hU HA a) (hU H1 a):=λb o e=>by
  obtain⟨nb,e⟩:=GK e;rw[jq nb];exact s1 _ _ e
 refine NE S hr e0 (hb s u) ru (s1 _ _ hf) (s1 _ _ hc) (s1 _ _ ha) ho r0 (hB A outer s (hU H1 a) (hr.deeper _)) ?_;refine⟨(),p,dx,(),se _ _ hp,NX ..,(),p,dx,m0,m1,m3,hV m1 m0,k,dv,wv,kd,kw,rfl,se _ _ hp,⟨k0,k1⟩,hn.2.2,hd.keep se,hw.keep se,λD H' _ s' hD na=>q D _ (λb o e=>?_) ?_⟩
 ·by_cases z:b=a
  ·rw[z] at e ⊢;rw[s1 _ _ ha] at e;rw[dY];exact e
  ·rw[eQ z];exact s' _ _ (by rw[jq z];exact e)
 ·rw[eQ (λz=>by rw[z,na] at hD;cases hD)];exact hD
theorem Yz:Dx P w base ZZ.e6 9 (UX P w mg base K):=by
 refine ZZ.e6.dfs ao9 (by trivial) ?_;rintro f _ _ _ s H _ Q E hr⟨kn,f,kd,kvs,g,H0,rfl,hk,hkn,hK,hl,hg,h0,s0,hD,q⟩;refine⟨_,(eC (eX (yt hr Y2 Y0) (dX (B6 hr Y0 Y2 (eD (MW ZZ) hr (A1 (PK (k:=8) hr Y1 (A1 Y2)))))) eZ) (dX (eF (JQ hr Y0 Y2)))),?_⟩;extract_lets;refine⟨(),(),kn,(),DGet.k (k:=.inl kd) hkn,(),?_⟩;cases e:ir kvs (.inl kd) with
 |none=>
  have hF:=ay6 s0 hD.1;refine fR ⟨(),f,rfl,hF,(),hF,hD.2 H kd _ s0 hk.1 hk.2 λD H2 s2 h2=>⟨D,jJ g kd,rfl,SqL.of h2,Oy g hk.1 hk.2,PJ hg,λH3 s3=>?_⟩⟩;have s23:=s2.trans s3;refine⟨(),(),kn,(),.inl ⟨kvs,.inl kd,s23 _ _ hkn,rfl,by rw[dI];omega,rfl⟩,?_⟩;exact⟨(),(),kn,(),.inl ⟨_,.inl kd,.inl dY,rfl,(by rw[FJ,if_pos rfl];rfl)⟩,q _ _ dY (Ot hK kd) (rd _ _ _) λb o n hb=>by rw[eQ n];exact s23 _ _ hb⟩
 |some v=>
  have ev:=hK kd v e;subst ev;exact fK ⟨(),(),kn,(),.inl ⟨_,.inl kd,.inl hkn,rfl,e.symm⟩,q kvs H hkn hK ⋯ λ_ _ _ hb=>hb⟩
theorem Sb:Dx P w base ZZ.gf 10 (Ro P w mg base K):=by
 refine ZZ.gf.dfs Uq (by trivial) ?_;rintro f _ _ _ s H _ Q E hr⟨f,mo,g,rfl,hg,hD,q,q0⟩;refine⟨_,(eC (eK 2 (eD (W9 ZZ) hr (A1 Y1)) Uq.nd) (eC (eK 3 Mg Uq.nd) (eC (j9 (oP ZZ.ar (A1 (fE (v:=.int 492) ZZ.ec ⟨()⟩))) (gN 4 Uq.nd) (eC (eK 5 (dZ iW (fE (v:=.int 1440) ZZ.af ⟨()⟩) (eD (Fq ZZ) hr (A3 (eO (fN (K:=K)) Y2 eI) (eO (fN (K:=K)) Y2 eI) eI))) Uq.nd) (eC (eK 6 (fX uf ZZ.dd PyProof.Rows.boot_max (A2 (dZ gW Y1 Y5) eI)) Uq.nd) (eC (eK 7 (dZ oO (eD (Yz ZZ) hr (A3 Y3 Y0 (eD (BC ZZ) hr (A2 (eO (fN (K:=K)) Y2 eI) (eO (fN (K:=K)) Y2 eI))))) Y6) Uq.nd) (eC (eX (eW l6 Y7 eI) (dX (eF (dZ fG (dZ fG Y5 Y6) (eD (Jh ZZ) hr (A1 Y7))))) eZ) (dX (eK 2 (eD (Vs ZZ) hr (A2 (eO (fN (K:=K)) Y2 eI) (eO (fN (K:=K)) Y2 eI))) Uq.nd)))))) PassesOwn.never) (dX (eF eN))))),?_⟩
 extract_lets;have hc:=aHX hg;refine⟨(),mo,rfl,λM0 t0 H1 s1 a1 a2 ht0=>λkn hkn=>?_⟩;have hkH:H kn=none:=by
  cases z:H kn with
  |none=>rfl
  |some o=>rw[s1 _ _ z] at hkn;cases hkn
 have sk:=eE hkn (.dK []);refine⟨(),by decide,by decide,G8 (λi σ H2=>∃(tt:Addr) (kvs:List (fA×V)) (u4 u5 u6 u7:Option V),σ=[some (.ref f),some (.int mo),some (.ref tt),some (.ref kn),u4,u5,u6,u7]/\H2 tt=some (.tup [.int ((M0+i) / 12),.int ((M0+i)%12+1)])/\H2 kn=some (.dK kvs)/\pZ g kvs/\kvs.length<=i/\Same H H2/\∀t,mo<=t->t<SM (M0+i)->¬om g t) ⟨t0,[],_,_,_,(),by rw[show M0+((0:Nat):Int)=M0 by omega];exact sk _ _ ht0,dY,λ_ _ z=>(by cases z),aX _,s1.trans sk,λt h1 h2=>by rw[show M0+((0:Nat):Int)=M0 by omega] at h2;unfold SM at h2;omega⟩ ?turn ?done⟩
 case done=>
  rintro σ H2 ⟨tt,kvs,u4,u5,u6,u7,rfl,htt,hk2,hK,hl,s2,hno⟩;exact q0 H2 s2
 case turn=>
  rintro i σ H2 hi ⟨tt,kvs,u4,u5,u6,u7,rfl,htt,hk2,hK,hl,s2,hno⟩;obtain⟨M,eM⟩:∃M,M=M0+(i:Int):=⟨()⟩;rw[←eM] at htt hno;have hi2:i<492:=hi;have lm:=oE M;refine⟨(),tt,_,(()),SqT.of (htt),rfl,(),tt,_,(()),SqT.of (htt),rfl,(M / 12),(M%12+1),1,rfl,⟨⟨⋯,⋯⟩,⋯,by have h:28<=fC (M / 12) (M%12+1):=lm.1;omega⟩,λH3 s3=>⟨(()),.inl ⟨by decide,by decide⟩,?_⟩⟩;have eS:1440*(db (M / 12)+ahead (M / 12) (M%12+1)+1-1)=SM M:=by unfold SM ie;omega
  show jy _ (V.int (1440*(db (M / 12)+ahead (M / 12) (M%12+1)+1-1))) _ _ _;rw[eS];refine⟨(),(),(()),_,(),?_⟩;show jy _ (V.int (if 0>mo-SM M then 0 else mo-SM M)) _ _ _;rw[aG9];have s23:=s2.trans s3;refine⟨(),(),(),tt,_,(()),SqT.of (s3 _ _ htt),rfl,(),tt,_,(()),SqT.of (s3 _ _ htt),rfl,(M / 12),(M%12+1),rfl,⟨⋯,⋯⟩,λH4 s4=>?_⟩;have s24:=s23.trans s4;refine⟨kn,f,mf M,kvs,g,H,rfl,Z5 M,s4 _ _ (s3 _ _ hk2),hK,⋯,hg,hkH,s24,hD,λkvs' H5 h5 hK5 hl5 k5=>?_⟩
  have s5:Same H H5:=λb o hb=>k5 b o (λz=>by rw[z,hkH] at hb;cases hb) (s24 _ _ hb);have nt:tt≠kn:=λz=>by rw[z,hk2] at htt;cases htt
  have ht5:H5 tt=_:=k5 tt _ nt (s4 _ _ (s3 _ _ htt));refine⟨(),(()),(by show (0:Int)<=max (mo-SM M) 0;omega),?_⟩;refine⟨(),rfl,(),HU (λc=>?_) (λc=>?_)⟩
  ·have X0:0<WM g M / 2^(max (mo-SM M) 0).toNat:=by
    have:0<=WM g M / 2^(max (mo-SM M) 0).toNat:=c6 (hc.nn M) (b8 (jp _));have c':¬WM g M / 2^(max (mo-SM M) 0).toNat=0:=c;omega
   obtain⟨l,hl',hj⟩:=Jp X0;obtain⟨b1,b2,b3⟩:=Qr hc hno hl' hj;have far:=Io M0 492;have a1':SM M0<=mo:=a1;have up:=hc.mono (show M+1<=M0+(492:Nat) by omega);have hb':=hc.bit M _ (by rw[←nJ (hc.nn M)];exact hl');refine⟨(),(),(()),(),_,l,rfl,X0,hl',hj,(()),q _ H5 s5 b1 b2 b3 ?_⟩;omega
  ·refine⟨(),tt,_,(()),SqT.of (ht5),rfl,(),tt,_,(()),SqT.of (ht5),rfl,M,rfl,λt6 H6 s6 h6=>?_⟩;refine⟨t6,kvs',_,_,_,(),by rw[show M0+((i+1:Nat):Int)=M+1 by omega];exact h6,s6 _ _ h5,hK5,⋯,s5.trans s6,?_⟩;rw[show M0+((i+1:Nat):Int)=M+1 by omega];exact awM hc hno c
theorem S2:Df P w K mg base "next_from" 11 ["row","moment"] (S9 K aD aF aG aI aE aA aH aJ aB aR aS):=by
 refine ZZ.fp.dfs Uz (by trivial) ?_;rintro _ A outer s H _ Q E hr⟨p,mo,m0,m1,m3,kd,kw,rfl,hR,hT,q⟩;refine⟨_,(eC (eK 2 (Tt "row" 0 (Sb ZZ) hr (A2 (wX ZZ.ey) Y1)) Uz.nd) (eC (eX (eW jA Y2 eN) (dX (eF (ij (A2 eN (gC aN))))) eZ) (dX (eF (ij (A2 Y2 (eD (as1 ZZ) hr (A3 Y0 Y1 (dZ gW Y2 eI))))))))),?_⟩;extract_lets;delta qb nE F0 ju;refine N5 (tN:=aR) hT.1 hT.2 (λf' HL hL=>⟨(),(),λha o0 u0 ho r0=>?_⟩)
 obtain⟨hf0,sN,⟨c',ctv,hf,hc⟩,t1⟩:=hL;have nf:f'≠_:=λz=>by rw[z,ha] at hf;cases hf
 have nc:c'≠_:=λz=>by rw[z,ha] at hc;cases hc
 have hg:=hR.ok;have tab:∀{H'},Same HL H'->kH H' aR aS:=λs=>pU s ⟨t1,Kt sN hT.2⟩;refine⟨f',mo,i8 (hV m1 m0) m3 kd kw,rfl,hg,?hD,λe H' s' ev h1 h2 h3=>⟨s' _ _ dY,?_⟩,λH' s'=>⟨s' _ _ dY,?_⟩⟩
 case hD=>
  refine VG ZZ ?hS ?hB1 ?hB2 ((eQ nf).trans hf) ((eQ nc).trans hc) dY ho r0 (RowR.keepN (sN.trans (jQ (ug ha (Same.refl _)))) hR)
  case hS=>exact⟨rfl,rfl,rfl,by decide +kernel,rfl,rfl,by decide +kernel,by decide +kernel⟩
  case hB1=>exact λs u=>.of_eq rfl
  case hB2=>exact λA outer s H1 hr=>jm ZZ.ad.cl (Lb ZZ) hr (v_ 1) (aC (v_ 0) aN)
 ·have sE:=ug ha s';have sNE:=sN.trans (jQ sE);refine⟨(),rfl,(),il (λc=>by cases c) (λ_=>?_)⟩;refine⟨(),(),(),(),(()),p,mo,(e-1),m0,m1,m3,kd,kw,rfl,RowR.keepN sNE hR,λt a b=>h2 t a ⋯,⋯,λl H2 s2=>⟨(zL 2),λt ht=>?_⟩⟩;have s3:=s2.trans (eE ht (.tup [.int e,.ref l]));exact q t l _ (.int e) (sNE.trans (jQ s3)) (tab (sE.trans s3)) dY (.inl ⟨e,rfl⟩)
 ·have sE:=ug ha s';have sNE:=sN.trans (jQ sE);refine⟨(),rfl,(),il (λ_=>?_) (λc=>absurd rfl c)⟩;refine⟨(zL 0),λl hl=>⟨(zL 2),λt ht=>?_⟩⟩;have s3:=(eE hl (.lst [])).trans (eE ht (.tup [.non,.ref l]));exact q t l _ .non (sNE.trans (jQ s3)) (tab (sE.trans s3)) dY (.inr rfl)
theorem anG{k0 n:Nat}:fZ P w K mg base aQ "tally" (k0+1) ["self"] (fW (⟨(⟨aD,aF,aG,aI,aE,aA,aH,aJ⟩:Cs),aB,eJ aQ aP aL aM aK aO⟩:Bc) jK (n+1) .B):=by
 refine ZZ.bw.dfs Er (λvs H Q E h=>?_) (λfz cdv Ar outer s H vs Q E hr h=>?_)
 ·obtain⟨A,x,as,b,rfl,_,rfl,q⟩:=h;rfl
 obtain⟨A,x,as,b,rfl,⟨dx,fs,us,bs,g,hx,hs,hp,hl,rfl⟩,rfl,q⟩:=h;obtain⟨rfl,rfl,rfl⟩:=hs;refine⟨_,(dX (eF eI)),?_⟩;cases hp;exact q _ (Same.refl _)
theorem Wk{k0:Nat}:fZ P w K mg base aQ "tally" (k0+1) ["self"] (fW (⟨(⟨aD,aF,aG,aI,aE,aA,aH,aJ⟩:Cs),aB,eJ aQ aP aL aM aK aO⟩:Bc) jK 0 .B):=ZZ.bw.dfs Er (λ_ _ _ _ h=>h.elim) (λ_ _ _ _ _ _ _ _ _ _ h=>h.elim)
theorem WH{k0 n:Nat}:fZ P w K mg base aP "tally" (k0+1) ["self"] (fW (⟨(⟨aD,aF,aG,aI,aE,aA,aH,aJ⟩:Cs),aB,eJ aQ aP aL aM aK aO⟩:Bc) jK (n+1) .O):=by
 refine ZZ.cm.dfs E4 (λvs H Q E h=>?_) (λfz cdv Ar outer s H vs Q E hr h=>?_)
 ·obtain⟨A,x,as,b,rfl,_,rfl,q⟩:=h;rfl
 obtain⟨A,x,as,b,rfl,⟨dx,fs,us,bs,g,hx,hs,hp,hl,rfl⟩,rfl,q⟩:=h;obtain⟨r,tm,f,rfl,rfl,hR,rfl⟩:=hs;refine⟨_,(dX (eF eI)),?_⟩;cases hp;exact q _ (Same.refl _)
theorem Rf{k0:Nat}:fZ P w K mg base aP "tally" (k0+1) ["self"] (fW (⟨(⟨aD,aF,aG,aI,aE,aA,aH,aJ⟩:Cs),aB,eJ aQ aP aL aM aK aO⟩:Bc) jK 0 .O):=ZZ.cm.dfs E4 (λ_ _ _ _ h=>h.elim) (λ_ _ _ _ _ _ _ _ _ _ h=>h.elim)
theorem aj2{k0 n:Nat}(D0:Df P w K mg base "tally_of" k0 ["books"] (nz K (⟨(⟨aD,aF,aG,aI,aE,aA,aH,aJ⟩:Cs),aB,eJ aQ aP aL aM aK aO⟩:Bc) n)):fZ P w K mg base aL "tally" (k0+1) ["self"] (fW (⟨(⟨aD,aF,aG,aI,aE,aA,aH,aJ⟩:Cs),aB,eJ aQ aP aL aM aK aO⟩:Bc) jK (n+1) .J):=by
 refine ZZ.bf.dfs EA (λvs H Q E h=>?_) (λfz cdv Ar outer s H vs Q E hr h=>?_)
 ·obtain⟨A,x,as,b,rfl,_,rfl,q⟩:=h;rfl
 obtain⟨A,x,as,b,rfl,⟨dx,fs,us,bs,g,hx,hs,hp,hl,rfl⟩,rfl,q⟩:=h;obtain⟨t,rfl,ht,h0,rfl⟩:=hs;refine⟨_,(dX (eF (j4 D0 hr (A1 (jg Y0))))),?_⟩;exact⟨(),x,aL,dx,_,(),hx,ZZ.ab.cl,ZZ.ag,rfl,A,t,us,bs,rfl,.inr (SqT.of ht),hp,hl,q⟩
theorem N3{k0:Nat}:fZ P w K mg base aL "tally" (k0+1) ["self"] (fW (⟨(⟨aD,aF,aG,aI,aE,aA,aH,aJ⟩:Cs),aB,eJ aQ aP aL aM aK aO⟩:Bc) jK 0 .J):=ZZ.bf.dfs EA (λ_ _ _ _ h=>h.elim) (λ_ _ _ _ _ _ _ _ _ _ h=>h.elim)
theorem W0{k0 n:Nat}(D0:Df P w K mg base "tally_of" k0 ["books"] (nz K (⟨(⟨aD,aF,aG,aI,aE,aA,aH,aJ⟩:Cs),aB,eJ aQ aP aL aM aK aO⟩:Bc) n)):fZ P w K mg base aM "tally" (k0+1) ["self"] (fW (⟨(⟨aD,aF,aG,aI,aE,aA,aH,aJ⟩:Cs),aB,eJ aQ aP aL aM aK aO⟩:Bc) jK (n+1) .M):=by
 refine ZZ.b5.dfs EX (λvs H Q E h=>?_) (λfz cdv Ar outer s H vs Q E hr h=>?_)
 ·obtain⟨A,x,as,b,rfl,_,rfl,q⟩:=h;rfl
 obtain⟨A,x,as,b,rfl,⟨dx,fs,us,bs,g,hx,hs,hp,hl,rfl⟩,rfl,q⟩:=h;obtain⟨t,rfl,ht,h0,rfl⟩:=hs;refine⟨_,(dX (eF (j4 D0 hr (A1 (jg Y0))))),?_⟩;exact⟨(),x,aM,dx,_,(),hx,ZZ.ah.cl,ZZ.ai,rfl,A,t,us,bs,rfl,.inr (SqT.of ht),hp,hl,q⟩
theorem Lm{k0:Nat}:fZ P w K mg base aM "tally" (k0+1) ["self"] (fW (⟨(⟨aD,aF,aG,aI,aE,aA,aH,aJ⟩:Cs),aB,eJ aQ aP aL aM aK aO⟩:Bc) jK 0 .M):=ZZ.b5.dfs EX (λ_ _ _ _ h=>h.elim) (λ_ _ _ _ _ _ _ _ _ _ h=>h.elim)
theorem V8{k0 n:Nat}(D0:Df P w K mg base "tally_of" k0 ["books"] (nz K (⟨(⟨aD,aF,aG,aI,aE,aA,aH,aJ⟩:Cs),aB,eJ aQ aP aL aM aK aO⟩:Bc) n)):fZ P w K mg base aK "tally" (k0+1) ["self"] (fW (⟨(⟨aD,aF,aG,aI,aE,aA,aH,aJ⟩:Cs),aB,eJ aQ aP aL aM aK aO⟩:Bc) jK (n+1) .L):=by
 refine ZZ.bx.dfs GV (λvs H Q E h=>?_) (λfz cdv Ar outer s H vs Q E hr h=>?_)
 ·obtain⟨A,x,as,b,rfl,_,rfl,q⟩:=h;rfl
 obtain⟨A,x,as,b,rfl,⟨dx,fs,us,bs,g,hx,hs,hp,hl,rfl⟩,rfl,q⟩:=h;obtain⟨u,w',rfl,rfl,rfl⟩:=hs;refine⟨_,(dX (eF (j4 D0 hr (A1 (gC (A2 (jg Y0) (jg Y0))))))),?_⟩;exact⟨(),x,aK,dx,_,(),hx,ZZ.ae.cl,ZZ.ap,rfl,(),x,aK,dx,_,(),hx,ZZ.ae.cl,ZZ.al,rfl,(zL 2),λl hl'=>⟨A,l,_,bs,rfl,.inl (SqL.of dY),Paired.mapP hp λ_ _ z=>z.same (eE hl' _),hl,λH' s'=>q H' ((eE hl' _).trans s')⟩⟩
theorem XU{k0:Nat}:fZ P w K mg base aK "tally" (k0+1) ["self"] (fW (⟨(⟨aD,aF,aG,aI,aE,aA,aH,aJ⟩:Cs),aB,eJ aQ aP aL aM aK aO⟩:Bc) jK 0 .L):=ZZ.bx.dfs GV (λ_ _ _ _ h=>h.elim) (λ_ _ _ _ _ _ _ _ _ _ h=>h.elim)
theorem L0{k0 n:Nat}(D0:Df P w K mg base "tally_of" k0 ["books"] (nz K (⟨(⟨aD,aF,aG,aI,aE,aA,aH,aJ⟩:Cs),aB,eJ aQ aP aL aM aK aO⟩:Bc) n)):fZ P w K mg base aO "tally" (k0+1) ["self"] (fW (⟨(⟨aD,aF,aG,aI,aE,aA,aH,aJ⟩:Cs),aB,eJ aQ aP aL aM aK aO⟩:Bc) jK (n+1) .T):=by
 refine ZZ.bg.dfs Ed (λvs H Q E h=>?_) (λfz cdv Ar outer s H vs Q E hr h=>?_)
 ·obtain⟨A,x,as,b,rfl,_,rfl,q⟩:=h;rfl
 obtain⟨A,x,as,b,rfl,⟨dx,fs,us,bs,g,hx,hs,hp,hl,rfl⟩,rfl,q⟩:=h;obtain⟨u,rfl,rfl,rfl⟩:=hs;refine⟨_,(dX (eF (j4 D0 hr (A1 (gC (A1 (jg Y0))))))),?_⟩;exact⟨(),x,aO,dx,_,(),hx,ZZ.ac.cl,ZZ.am,rfl,(zL 1),λl hl'=>⟨A,l,_,bs,rfl,.inl (SqL.of dY),Paired.mapP hp λ_ _ z=>z.same (eE hl' _),hl,λH' s'=>q H' ((eE hl' _).trans s')⟩⟩
theorem Mw{k0:Nat}:fZ P w K mg base aO "tally" (k0+1) ["self"] (fW (⟨(⟨aD,aF,aG,aI,aE,aA,aH,aJ⟩:Cs),aB,eJ aQ aP aL aM aK aO⟩:Bc) jK 0 .T):=ZZ.bg.dfs Ed (λ_ _ _ _ h=>h.elim) (λ_ _ _ _ _ _ _ _ _ _ h=>h.elim)
theorem IE{k0 n:Nat}(M0:Mo P w K mg base (⟨(⟨aD,aF,aG,aI,aE,aA,aH,aJ⟩:Cs),aB,eJ aQ aP aL aM aK aO⟩:Bc) "tally" ["self"] k0 (fW (⟨(⟨aD,aF,aG,aI,aE,aA,aH,aJ⟩:Cs),aB,eJ aQ aP aL aM aK aO⟩:Bc) jK n)):Df P w K mg base "tally_of" (k0+1) ["books"] (nz K (⟨(⟨aD,aF,aG,aI,aE,aA,aH,aJ⟩:Cs),aB,eJ aQ aP aL aM aK aO⟩:Bc) n):=by
 refine ZZ.gg.dfs Ym (λvs H Q E h=>?_) (λf cdv A outer s H vs Q E hr h=>?_)
 ·obtain⟨A,a,us,bs,rfl,_⟩:=h;rfl
 obtain⟨A',a,us,bs,rfl,hS,hbs,hl,q⟩:=h;refine⟨_,(dX (eF (dZ fG eI (fX xt ZZ.db PyProof.Rows.boot_sum (A1 (kP (i9 [] [] (iL Y0) (λ_ _ _ _ _ _=>iq) (λ_ _ _ _ _ _=>(nW (hk:=aX _) M0 hr Y0))) (i9 [] [] (iT Y0) (λ_ _ _ _ _ _=>iq) (λ_ _ _ _ _ _=>(nW (hk:=aX _) M0 hr Y0))))))))),?_⟩;rcases hS with hS | hS
 ·refine .inl ⟨(),a,rfl,⟨_,hS⟩,kA (xs:=us) (λi l=>l=((bs.take i).map (·.1)).map V.int) (by rw[dI];omega) rfl hS (λi v l D H2 E' F' hv hR hD s2 hz hE hF=>?_) (λD H2 l hR hD s2 hz=>?_)⟩
  ·subst hR;obtain⟨b,eb,hb⟩:=KM.Paired.at hbs hv;exact⟨A',v,b,rfl,hb.same s2,rfl,λH5 s5=>hE _ _ s5 (by rw[bH,eb,a8,a8];rfl)⟩
  ·subst hR;rw[Paired.length hbs,bL] at hz;exact⟨D,bs.map (·.1),rfl,SqL.of hz,(()),q H2 s2⟩
 ·refine .inr ⟨(),a,rfl,⟨_,hS⟩,oo (xs:=us) (λi l=>l=((bs.take i).map (·.1)).map V.int) (by rw[dI];omega) rfl hS (λi v l D H2 E' F' hv hR hD s2 hz hE hF=>?_) (λD H2 l hR hD s2 hz=>?_)⟩
  ·subst hR;obtain⟨b,eb,hb⟩:=KM.Paired.at hbs hv;exact⟨A',v,b,rfl,hb.same s2,rfl,λH5 s5=>hE _ _ s5 (by rw[bH,eb,a8,a8];rfl)⟩
  ·subst hR;rw[Paired.length hbs,bL] at hz;exact⟨D,bs.map (·.1),rfl,SqL.of hz,(()),q H2 s2⟩
theorem xa:∀n:Nat,Mo P w K mg base (⟨(⟨aD,aF,aG,aI,aE,aA,aH,aJ⟩:Cs),aB,eJ aQ aP aL aM aK aO⟩:Bc) "tally" ["self"] (2*n+1) (fW (⟨(⟨aD,aF,aG,aI,aE,aA,aH,aJ⟩:Cs),aB,eJ aQ aP aL aM aK aO⟩:Bc) jK n)
 |0=>λi=>by
  cases i with
  |B=>exact⟨ZZ.ak.cl,Wk ZZ⟩
  |O=>exact⟨ZZ.aq.cl,Rf ZZ⟩
  |J=>exact⟨ZZ.ab.cl,N3 ZZ⟩
  |M=>exact⟨ZZ.ah.cl,Lm ZZ⟩
  |L=>exact⟨ZZ.ae.cl,XU ZZ⟩
  |T=>exact⟨ZZ.ac.cl,Mw ZZ⟩
 |n+1=>λi=>by
  have D0:=IE ZZ (xa n);cases i with
  |B=>exact⟨ZZ.ak.cl,anG ZZ⟩
  |O=>exact⟨ZZ.aq.cl,WH ZZ⟩
  |J=>exact⟨ZZ.ab.cl,aj2 ZZ D0⟩
  |M=>exact⟨ZZ.ah.cl,W0 ZZ D0⟩
  |L=>exact⟨ZZ.ae.cl,V8 ZZ D0⟩
  |T=>exact⟨ZZ.ac.cl,L0 ZZ D0⟩
theorem WL:Df P w K mg base "tally_of" 10 ["books"] (nz K (⟨(⟨aD,aF,aG,aI,aE,aA,aH,aJ⟩:Cs),aB,eJ aQ aP aL aM aK aO⟩:Bc) 4):=IE ZZ (xa ZZ 4)
theorem RY{k0 n:Nat}:fZ P w K mg base aQ "depth" (k0+1) ["self"] (fW (⟨(⟨aD,aF,aG,aI,aE,aA,aH,aJ⟩:Cs),aB,eJ aQ aP aL aM aK aO⟩:Bc) jT (n+1) .B):=by
 refine ZZ.bz.dfs IV (λvs H Q E h=>?_) (λfz cdv Ar outer s H vs Q E hr h=>?_)
 ·obtain⟨A,x,as,b,rfl,_,rfl,q⟩:=h;rfl
 obtain⟨A,x,as,b,rfl,⟨dx,fs,us,bs,g,hx,hs,hp,hl,rfl⟩,rfl,q⟩:=h;obtain⟨rfl,rfl,rfl⟩:=hs;refine⟨_,(dX (eF eI)),?_⟩;cases hp;exact q _ (Same.refl _)
theorem Tf{k0:Nat}:fZ P w K mg base aQ "depth" (k0+1) ["self"] (fW (⟨(⟨aD,aF,aG,aI,aE,aA,aH,aJ⟩:Cs),aB,eJ aQ aP aL aM aK aO⟩:Bc) jT 0 .B):=ZZ.bz.dfs IV (λ_ _ _ _ h=>h.elim) (λ_ _ _ _ _ _ _ _ _ _ h=>h.elim)
theorem ZO{k0 n:Nat}:fZ P w K mg base aP "depth" (k0+1) ["self"] (fW (⟨(⟨aD,aF,aG,aI,aE,aA,aH,aJ⟩:Cs),aB,eJ aQ aP aL aM aK aO⟩:Bc) jT (n+1) .O):=by
 refine ZZ.cn.dfs Ek (λvs H Q E h=>?_) (λfz cdv Ar outer s H vs Q E hr h=>?_)
 ·obtain⟨A,x,as,b,rfl,_,rfl,q⟩:=h;rfl
 obtain⟨A,x,as,b,rfl,⟨dx,fs,us,bs,g,hx,hs,hp,hl,rfl⟩,rfl,q⟩:=h;obtain⟨r,tm,f,rfl,rfl,hR,rfl⟩:=hs;refine⟨_,(dX (eF eI)),?_⟩;cases hp;exact q _ (Same.refl _)
theorem NT{k0:Nat}:fZ P w K mg base aP "depth" (k0+1) ["self"] (fW (⟨(⟨aD,aF,aG,aI,aE,aA,aH,aJ⟩:Cs),aB,eJ aQ aP aL aM aK aO⟩:Bc) jT 0 .O):=ZZ.cn.dfs Ek (λ_ _ _ _ h=>h.elim) (λ_ _ _ _ _ _ _ _ _ _ h=>h.elim)
theorem ai9{k0 n:Nat}(D0:Df P w K mg base "depth_of" k0 ["books"] (oe K (⟨(⟨aD,aF,aG,aI,aE,aA,aH,aJ⟩:Cs),aB,eJ aQ aP aL aM aK aO⟩:Bc) n)):fZ P w K mg base aL "depth" (k0+1) ["self"] (fW (⟨(⟨aD,aF,aG,aI,aE,aA,aH,aJ⟩:Cs),aB,eJ aQ aP aL aM aK aO⟩:Bc) jT (n+1) .J):=by
 refine ZZ.bh.dfs FA (λvs H Q E h=>?_) (λfz cdv Ar outer s H vs Q E hr h=>?_)
 ·obtain⟨A,x,as,b,rfl,_,rfl,q⟩:=h;rfl
 obtain⟨A,x,as,b,rfl,⟨dx,fs,us,bs,g,hx,hs,hp,hl,rfl⟩,rfl,q⟩:=h;obtain⟨t,rfl,ht,h0,rfl⟩:=hs;refine⟨_,(dX (eF (j4 D0 hr (A1 (jg Y0))))),?_⟩;exact⟨(),x,aL,dx,_,(),hx,ZZ.ab.cl,ZZ.ag,rfl,A,t,us,bs,rfl,.inr (SqT.of ht),hp,hl,h0,q⟩
theorem S3{k0:Nat}:fZ P w K mg base aL "depth" (k0+1) ["self"] (fW (⟨(⟨aD,aF,aG,aI,aE,aA,aH,aJ⟩:Cs),aB,eJ aQ aP aL aM aK aO⟩:Bc) jT 0 .J):=ZZ.bh.dfs FA (λ_ _ _ _ h=>h.elim) (λ_ _ _ _ _ _ _ _ _ _ h=>h.elim)
theorem To{k0 n:Nat}(D0:Df P w K mg base "depth_of" k0 ["books"] (oe K (⟨(⟨aD,aF,aG,aI,aE,aA,aH,aJ⟩:Cs),aB,eJ aQ aP aL aM aK aO⟩:Bc) n)):fZ P w K mg base aM "depth" (k0+1) ["self"] (fW (⟨(⟨aD,aF,aG,aI,aE,aA,aH,aJ⟩:Cs),aB,eJ aQ aP aL aM aK aO⟩:Bc) jT (n+1) .M):=by
 refine ZZ.b6.dfs JD (λvs H Q E h=>?_) (λfz cdv Ar outer s H vs Q E hr h=>?_)
 ·obtain⟨A,x,as,b,rfl,_,rfl,q⟩:=h;rfl
 obtain⟨A,x,as,b,rfl,⟨dx,fs,us,bs,g,hx,hs,hp,hl,rfl⟩,rfl,q⟩:=h;obtain⟨t,rfl,ht,h0,rfl⟩:=hs;refine⟨_,(dX (eF (j4 D0 hr (A1 (jg Y0))))),?_⟩;exact⟨(),x,aM,dx,_,(),hx,ZZ.ah.cl,ZZ.ai,rfl,A,t,us,bs,rfl,.inr (SqT.of ht),hp,hl,h0,q⟩
theorem SL{k0:Nat}:fZ P w K mg base aM "depth" (k0+1) ["self"] (fW (⟨(⟨aD,aF,aG,aI,aE,aA,aH,aJ⟩:Cs),aB,eJ aQ aP aL aM aK aO⟩:Bc) jT 0 .M):=ZZ.b6.dfs JD (λ_ _ _ _ h=>h.elim) (λ_ _ _ _ _ _ _ _ _ _ h=>h.elim)
theorem TJ{k0 n:Nat}(D0:Df P w K mg base "depth_of" k0 ["books"] (oe K (⟨(⟨aD,aF,aG,aI,aE,aA,aH,aJ⟩:Cs),aB,eJ aQ aP aL aM aK aO⟩:Bc) n)):fZ P w K mg base aK "depth" (k0+1) ["self"] (fW (⟨(⟨aD,aF,aG,aI,aE,aA,aH,aJ⟩:Cs),aB,eJ aQ aP aL aM aK aO⟩:Bc) jT (n+1) .L):=by
 refine ZZ.b0.dfs Gg (λvs H Q E h=>?_) (λfz cdv Ar outer s H vs Q E hr h=>?_)
 ·obtain⟨A,x,as,b,rfl,_,rfl,q⟩:=h;rfl
 obtain⟨A,x,as,b,rfl,⟨dx,fs,us,bs,g,hx,hs,hp,hl,rfl⟩,rfl,q⟩:=h;obtain⟨u,w',rfl,rfl,rfl⟩:=hs;refine⟨_,(dX (eF (j4 D0 hr (A1 (gC (A2 (jg Y0) (jg Y0))))))),?_⟩;exact⟨(),x,aK,dx,_,(),hx,ZZ.ae.cl,ZZ.ap,rfl,(),x,aK,dx,_,(),hx,ZZ.ae.cl,ZZ.al,rfl,(zL 2),λl hl'=>⟨A,l,_,bs,rfl,.inl (SqL.of dY),Paired.mapP hp λ_ _ z=>z.same (eE hl' _),hl,Nat.succ_pos _,λH' s'=>q H' ((eE hl' _).trans s')⟩⟩
theorem Li{k0:Nat}:fZ P w K mg base aK "depth" (k0+1) ["self"] (fW (⟨(⟨aD,aF,aG,aI,aE,aA,aH,aJ⟩:Cs),aB,eJ aQ aP aL aM aK aO⟩:Bc) jT 0 .L):=ZZ.b0.dfs Gg (λ_ _ _ _ h=>h.elim) (λ_ _ _ _ _ _ _ _ _ _ h=>h.elim)
theorem Th{k0 n:Nat}(D0:Df P w K mg base "depth_of" k0 ["books"] (oe K (⟨(⟨aD,aF,aG,aI,aE,aA,aH,aJ⟩:Cs),aB,eJ aQ aP aL aM aK aO⟩:Bc) n)):fZ P w K mg base aO "depth" (k0+1) ["self"] (fW (⟨(⟨aD,aF,aG,aI,aE,aA,aH,aJ⟩:Cs),aB,eJ aQ aP aL aM aK aO⟩:Bc) jT (n+1) .T):=by
 refine ZZ.bi.dfs Kx (λvs H Q E h=>?_) (λfz cdv Ar outer s H vs Q E hr h=>?_)
 ·obtain⟨A,x,as,b,rfl,_,rfl,q⟩:=h;rfl
 obtain⟨A,x,as,b,rfl,⟨dx,fs,us,bs,g,hx,hs,hp,hl,rfl⟩,rfl,q⟩:=h;obtain⟨u,rfl,rfl,rfl⟩:=hs;refine⟨_,(dX (eF (j4 D0 hr (A1 (gC (A1 (jg Y0))))))),?_⟩;exact⟨(),x,aO,dx,_,(),hx,ZZ.ac.cl,ZZ.am,rfl,(zL 1),λl hl'=>⟨A,l,_,bs,rfl,.inl (SqL.of dY),Paired.mapP hp λ_ _ z=>z.same (eE hl' _),hl,Nat.succ_pos _,λH' s'=>q H' ((eE hl' _).trans s')⟩⟩
theorem Lr{k0:Nat}:fZ P w K mg base aO "depth" (k0+1) ["self"] (fW (⟨(⟨aD,aF,aG,aI,aE,aA,aH,aJ⟩:Cs),aB,eJ aQ aP aL aM aK aO⟩:Bc) jT 0 .T):=ZZ.bi.dfs Kx (λ_ _ _ _ h=>h.elim) (λ_ _ _ _ _ _ _ _ _ _ h=>h.elim)
theorem Jc{k0 n:Nat}(M0:Mo P w K mg base (⟨(⟨aD,aF,aG,aI,aE,aA,aH,aJ⟩:Cs),aB,eJ aQ aP aL aM aK aO⟩:Bc) "depth" ["self"] k0 (fW (⟨(⟨aD,aF,aG,aI,aE,aA,aH,aJ⟩:Cs),aB,eJ aQ aP aL aM aK aO⟩:Bc) jT n)):Df P w K mg base "depth_of" (k0+1) ["books"] (oe K (⟨(⟨aD,aF,aG,aI,aE,aA,aH,aJ⟩:Cs),aB,eJ aQ aP aL aM aK aO⟩:Bc) n):=by
 refine ZZ.gh.dfs YK (λvs H Q E h=>?_) (λf cdv A outer s H vs Q E hr h=>?_)
 ·obtain⟨A,a,us,bs,rfl,_⟩:=h;rfl
 obtain⟨A',a,us,bs,rfl,hS,hbs,hl,h0,q⟩:=h;refine⟨_,(dX (eF (dZ fG eI (fX GA ZZ.dd PyProof.Rows.boot_max (A1 (kP (i9 [] [] (iL Y0) (λ_ _ _ _ _ _=>iq) (λ_ _ _ _ _ _=>(nW (hk:=aX _) M0 hr Y0))) (i9 [] [] (iT Y0) (λ_ _ _ _ _ _=>iq) (λ_ _ _ _ _ _=>(nW (hk:=aX _) M0 hr Y0))))))))),?_⟩;have mx:∀{M:Int},M∈bs.map (·.2.1)->(∀m∈bs.map (·.2.1),m<=M)->M=(bs.map (·.2.1)).foldl max 0:=λh1 h2=>Ih h1 h2 (by
  obtain⟨b,hb,rfl⟩:=bI.mp h1;obtain⟨u,_,hu⟩:=mC hbs b hb;have:=hu.pos;omega)
 rcases hS with hS | hS
 ·refine .inl ⟨(),a,rfl,⟨_,hS⟩,kA (xs:=us) (λi l=>l=((bs.take i).map (·.2.1)).map V.int) (by rw[dI];omega) rfl hS (λi v l D H2 E' F' hv hR hD s2 hz hE hF=>?_) (λD H2 l hR hD s2 hz=>?_)⟩
  ·subst hR;obtain⟨b,eb,hb⟩:=KM.Paired.at hbs hv;exact⟨A',v,b,rfl,hb.same s2,rfl,λH5 s5=>hE _ _ s5 (by rw[bH,eb,a8,a8];rfl)⟩
  ·subst hR;rw[Paired.length hbs,bL] at hz;exact⟨D,bs.map (·.2.1),rfl,SqL.of hz,(by rw[aY,←Paired.length hbs];exact h0),λM hM hle=>⟨(()),by rw[mx hM hle];exact q H2 s2⟩⟩
 ·refine .inr ⟨(),a,rfl,⟨_,hS⟩,oo (xs:=us) (λi l=>l=((bs.take i).map (·.2.1)).map V.int) (by rw[dI];omega) rfl hS (λi v l D H2 E' F' hv hR hD s2 hz hE hF=>?_) (λD H2 l hR hD s2 hz=>?_)⟩
  ·subst hR;obtain⟨b,eb,hb⟩:=KM.Paired.at hbs hv;exact⟨A',v,b,rfl,hb.same s2,rfl,λH5 s5=>hE _ _ s5 (by rw[bH,eb,a8,a8];rfl)⟩
  ·subst hR;rw[Paired.length hbs,bL] at hz;exact⟨D,bs.map (·.2.1),rfl,SqL.of hz,(by rw[aY,←Paired.length hbs];exact h0),λM hM hle=>⟨(()),by rw[mx hM hle];exact q H2 s2⟩⟩
theorem CD:∀n:Nat,Mo P w K mg base (⟨(⟨aD,aF,aG,aI,aE,aA,aH,aJ⟩:Cs),aB,eJ aQ aP aL aM aK aO⟩:Bc) "depth" ["self"] (2*n+1) (fW (⟨(⟨aD,aF,aG,aI,aE,aA,aH,aJ⟩:Cs),aB,eJ aQ aP aL aM aK aO⟩:Bc) jT n)
 |0=>λi=>by
  cases i with
  |B=>exact⟨ZZ.ak.cl,Tf ZZ⟩
  |O=>exact⟨ZZ.aq.cl,NT ZZ⟩
  |J=>exact⟨ZZ.ab.cl,S3 ZZ⟩
  |M=>exact⟨ZZ.ah.cl,SL ZZ⟩
  |L=>exact⟨ZZ.ae.cl,Li ZZ⟩
  |T=>exact⟨ZZ.ac.cl,Lr ZZ⟩
 |n+1=>λi=>by
  have D0:=Jc ZZ (CD n);cases i with
  |B=>exact⟨ZZ.ak.cl,RY ZZ⟩
  |O=>exact⟨ZZ.aq.cl,ZO ZZ⟩
  |J=>exact⟨ZZ.ab.cl,ai9 ZZ D0⟩
  |M=>exact⟨ZZ.ah.cl,To ZZ D0⟩
  |L=>exact⟨ZZ.ae.cl,TJ ZZ D0⟩
  |T=>exact⟨ZZ.ac.cl,Th ZZ D0⟩
theorem PU:Df P w K mg base "depth_of" 10 ["books"] (oe K (⟨(⟨aD,aF,aG,aI,aE,aA,aH,aJ⟩:Cs),aB,eJ aQ aP aL aM aK aO⟩:Bc) 4):=Jc ZZ (CD ZZ 4)
theorem vh:Dx P w base ZZ.gw 11 (Te K aD aF aG aI aE aA aH aJ aB aQ aP aL aM aK aO):=by
 refine ZZ.gw.dfs So (by trivial) ?_;rintro _ _ _ _ s H _ Q E hr⟨A',a,us,bs,rfl,hS,⟨hbs,hl,h0,hok⟩,q⟩;refine⟨_,(eC (eX (iI (gY (fX tD ZZ.dc boot_all (A1 (i9 [] [] (kf (K:=K) Y0) (λ_ _ _ _ _ _=>iq) (λ_ _ _ _ _ _=>(fX (xl (K:=K)) ZZ.aa PyProof.Rows.boot_isinstance (A2 Y0 (fE (v:=.ref aQ) ZZ.ak.at_ rfl))))))))) (dX jL) eZ) (eC (eX (eW kj (eD (WL ZZ) hr (A1 Y0)) (fE (v:=.int 24) ZZ.ev ⟨()⟩)) (dX jL) eZ) (eC (eX (eW kj (eD (PU ZZ) hr (A1 Y0)) (fE (v:=.int 5) ZZ.ew ⟨()⟩)) (dX jL) eZ) (dX (eF (jd Kg ZZ.cf PyProof.Rows.boot_tuple (A1 Y0))))))),?_⟩
 extract_lets;have bf:∀i,BF K ((⟨(⟨aD,aF,aG,aI,aE,aA,aH,aJ⟩:Cs),aB,eJ aQ aP aL aM aK aO⟩:Bc).k .B) ((⟨(⟨aD,aF,aG,aI,aE,aA,aH,aJ⟩:Cs),aB,eJ aQ aP aL aM aK aO⟩:Bc).k i) true:=λi=>by cases i with
  |B=>exact⟨ZZ.cb,ZZ.ak.cl,ZZ.cd⟩
  |O=>exact⟨ZZ.c8,ZZ.aq.cl,ZZ.c9⟩
  |J=>exact⟨ZZ.bl,ZZ.ab.cl,ZZ.bn⟩
  |M=>exact⟨ZZ.cr,ZZ.ah.cl,ZZ.cs⟩
  |L=>exact⟨ZZ.cc,ZZ.ae.cl,ZZ.ce⟩
  |T=>exact⟨ZZ.bm,ZZ.ac.cl,ZZ.bo⟩
 obtain⟨bl,hbl,eb⟩:∃bl,Paired (DN K aQ H) us bl/\bl.all id=true:=HK λv hv=>by
  obtain⟨b,hb⟩:=Jm hbs v hv;exact hb.isB bf
 refine⟨(),a,rfl,⟨_,hS⟩,kA (xs:=us) (λi l=>l=(bl.take i).map V.bl) (by rw[dI];omega) rfl hS (λi v l D H2 E' F' hv hR hD s2 hz hE hF=>?_) (λD H2 l hR hD s2 hz=>?_)⟩
 ·subst hR;obtain⟨b,eb',t,ht,hk⟩:=KM.Paired.at hbl hv;exact⟨(),v,t,aQ,b,rfl,FI s2 ht,hk,hE _ _ (Same.refl _) (by rw[bH,eb',a8];rfl)⟩
 subst hR;refine⟨D,bl,rfl,SqL.of (by rw[hz,Paired.length hbl,bL]),(),?_⟩;rw[eb];refine fK ⟨(),A',a,us,bs,rfl,.inl (s2.seq hS),Paired.mapP hbs λ_ _ z=>z.same s2,hl,λH3 s3=>⟨(()),(),il (λc=>absurd hok.1 ⋯) (λc=>?_)⟩⟩;have s23:=s2.trans s3;refine⟨(),A',a,us,bs,rfl,.inl (s23.seq hS),Paired.mapP hbs λ_ _ z=>z.same s23,hl,h0,λH4 s4=>⟨(()),(),il (λc4=>absurd hok.2 ⋯) (λc4=>?_)⟩⟩;exact⟨(),a,us,rfl,.inl ⟨(s23.trans s4).seq hS,λt ht=>q t _ ((s23.trans s4).trans (eE ht _)) dY⟩⟩
theorem JK:Dx P w base ZZ.d1 12 (alB K aD aF aG aI aE aA aH aJ aB aQ aP aL aM aK aO):=by
 refine ZZ.d1.dfs Vr (by trivial) ?_;rintro _ _ _ _ s H _ Q E hr⟨A',a,us,bs,rfl,hS,hb,q⟩;refine⟨_,(eC (eX (tW (iU (iI (gY (fX oh ZZ.aa PyProof.Rows.boot_isinstance (A2 Y0 (kU ZZ.cv PyProof.Rows.boot_list))))) (jB (iI (D6 kQ kQ eI (fX (kX (K:=K)) ZZ.ao PySem.boot_len (A1 Y0)) (fE (v:=.int 8) ZZ.ex ⟨()⟩)))))) (dX jL) eZ) (dX (eF (eD (vh ZZ) hr (A1 Y0))))),?_⟩;extract_lets;have hl:=hb.2.1
 have h0:=hb.2.2.1;refine⟨(),.ref a,.list,.list,rfl,(by decide),.inl ⟨rfl,us,hS⟩,(),fK ⟨(),a,us,rfl,.inl hS,(()),(),?_⟩⟩;rw[dN (show (1:Int)<=((us.length:Nat):Int) by omega)];refine fR ⟨(()),(),?_⟩;rw[dN (show ((us.length:Nat):Int)<=8 by omega)];exact fK ⟨(),A',a,us,bs,rfl,hS,hb,q⟩
theorem ZP:Dm P w mg base ZZ.ek 1 (amW K aP aD aF aG aI aE aA aH aJ aB aQ aP aL aM aK aO):=by
 refine ZZ.ek.dfs anX (by trivial) ?_;rintro _ _ _ _ s H _ Q E hr⟨p,dx,x,dr,fr,rfl,hp,hx,q⟩;refine⟨_,(eC (eX (iI (gY (fX me ZZ.aa PyProof.Rows.boot_isinstance (A2 Y1 (fE (v:=.ref aB) ZZ.ad.at_ rfl))))) (dX jL) eZ) (dX (iY Y0 Y1))),?_⟩;extract_lets;exact⟨(),.ref x,_,aB,true,rfl,ZZ.g6.ty ZZ.ad.cl hx,ZZ.g7,(),fK ⟨(),(),p,aP,dx,(),hp,ZZ.aq.cl,ZZ.br,(by show 0<1000;decide),q⟩⟩
theorem Z0:Dm P w mg base ZZ.c0 13 (Lo K aL aD aF aG aI aE aA aH aJ aB aQ aP aL aM aK aO):=by
 refine ZZ.c0.dfs VL (by trivial) ?_;rintro _ _ _ _ s H _ Q E hr⟨p,dx,a,A',us,bs,rfl,hp,hS,hb,q⟩;refine⟨_,(dX (iY Y0 (eD (JK ZZ) hr (A1 Y1)))),?_⟩;exact⟨(),A',a,us,bs,rfl,hS,hb,λt H' s' ht=>⟨(),p,aL,dx,(),s' _ _ hp,ZZ.ab.cl,ZZ.ag,(by show 0<1000;decide),q t _ dY (by rw[eQ (λe=>by rw[e,s' _ _ hp] at ht;cases ht)];exact ht) λb o hb ne=>by rw[eQ ne];exact s' _ _ hb⟩⟩
theorem P4:Dm P w mg base ZZ.d2 13 (P1 K aM aD aF aG aI aE aA aH aJ aB aQ aP aL aM aK aO):=by
 refine ZZ.d2.dfs ZE (by trivial) ?_;rintro _ _ _ _ s H _ Q E hr⟨p,dx,a,A',us,bs,rfl,hp,hS,hb,q⟩;refine⟨_,(dX (iY Y0 (eD (JK ZZ) hr (A1 Y1)))),?_⟩;exact⟨(),A',a,us,bs,rfl,hS,hb,λt H' s' ht=>⟨(),p,aM,dx,(),s' _ _ hp,ZZ.ah.cl,ZZ.ai,(by show 0<1000;decide),q t _ dY (by rw[eQ (λe=>by rw[e,s' _ _ hp] at ht;cases ht)];exact ht) λb o hb ne=>by rw[eQ ne];exact s' _ _ hb⟩⟩
theorem Vg:Dm P w mg base ZZ.dl 12 (WA K aK aD aF aG aI aE aA aH aJ aB aQ aP aL aM aK aO):=by
 refine ZZ.dl.dfs aj6 (by trivial) ?_;rintro _ _ _ _ s H _ Q E hr⟨p,dx,A',u,w',bs,rfl,hp,hb,q⟩;refine⟨_,(eC (lO (eD (vh ZZ) hr (A1 (gC (A2 Y1 Y2))))) (eC (iY Y0 Y1) (dX (iY Y0 Y2)))),?_⟩;extract_lets;exact⟨(),(),(zL 2),λl hl=>⟨A',l,[u,w'],bs,rfl,SqL.of dY,hb.same (eE hl _),λt H' s' ht=>⟨(),(),p,aK,dx,(),(s' _ _ (eE hl _ _ _ hp)),ZZ.ae.cl,ZZ.ap,(by show 0<1000;decide),(),(),p,aK,dx,(),dY,ZZ.ae.cl,ZZ.al,(by show 1<1000;decide),q _ dY λb o hb ne=>by rw[eQ ne,eQ ne];exact s' _ _ (eE hl _ _ _ hb)⟩⟩⟩
theorem Hm:Dm P w mg base ZZ.c1 12 (S1 K aO aD aF aG aI aE aA aH aJ aB aQ aP aL aM aK aO):=by
 refine ZZ.c1.dfs Z9 (by trivial) ?_;rintro _ _ _ _ s H _ Q E hr⟨p,dx,A',u,bs,rfl,hp,hb,q⟩;refine⟨_,(eC (lO (eD (vh ZZ) hr (A1 (gC (A1 Y1))))) (dX (iY Y0 Y1))),?_⟩;extract_lets;exact⟨(),(zL 1),λl hl=>⟨A',l,[u],bs,rfl,SqL.of dY,hb.same (eE hl _),λt H' s' ht=>⟨(),(),p,aO,dx,(),(s' _ _ (eE hl _ _ _ hp)),ZZ.ac.cl,ZZ.am,(by show 0<1000;decide),q _ dY λb o hb ne=>by rw[eQ ne];exact s' _ _ (eE hl _ _ _ hb)⟩⟩⟩
theorem SA{k0 n:Nat}:fZ P w K mg base aQ "holds" (k0+13) ["self","moment"] (fW (⟨(⟨aD,aF,aG,aI,aE,aA,aH,aJ⟩:Cs),aB,eJ aQ aP aL aM aK aO⟩:Bc) jo (n+1) .B):=by
 refine ZZ.b1.dfs Em (λvs H Q E h=>?_) (λfz cdv Ar outer s H vs Q E hr h=>?_)
 ·obtain⟨A,x,as,b,rfl,_,mo,y,m,k,rfl,ok,e,q⟩:=h;rfl
 obtain⟨A,x,as,b,rfl,⟨dx,fs,us,bs,g,hx,hs,hp,hl,rfl⟩,mo,y,m,k,rfl,ok,e,q⟩:=h;obtain⟨rfl,rfl,rfl⟩:=hs;refine⟨_,(dX (eF eB)),?_⟩;cases hp;have z:=q H (Same.refl _);rw[show gS (gM (λ_=>zF) []).2.2 mo y m k=false from Im] at z;exact z
theorem XZ{k0:Nat}:fZ P w K mg base aQ "holds" (k0+1) ["self","moment"] (fW (⟨(⟨aD,aF,aG,aI,aE,aA,aH,aJ⟩:Cs),aB,eJ aQ aP aL aM aK aO⟩:Bc) jo 0 .B):=ZZ.b1.dfs Em (λ_ _ _ _ h=>h.elim) (λ_ _ _ _ _ _ _ _ _ _ h=>h.elim)
theorem QT{k0 n:Nat}:fZ P w K mg base aP "holds" (k0+13) ["self","moment"] (fW (⟨(⟨aD,aF,aG,aI,aE,aA,aH,aJ⟩:Cs),aB,eJ aQ aP aL aM aK aO⟩:Bc) jo (n+1) .O):=by
 refine ZZ.co.dfs FL (λvs H Q E h=>?_) (λfz cdv Ar outer s H vs Q E hr h=>?_)
 ·obtain⟨A,x,as,b,rfl,_,mo,y,m,k,rfl,ok,e,q⟩:=h;rfl
 obtain⟨A,x,as,b,rfl,⟨dx,fs,us,bs,g,hx,hs,hp,hl,rfl⟩,mo,y,m,k,rfl,ok,e,q⟩:=h;obtain⟨r,tm,f,rfl,rfl,hR,rfl⟩:=hs;refine⟨_,(dX (eF (jm (hk:=by omega) ZZ.ad.cl (GH ZZ) hr (jg Y0) (A1 Y1)))),?_⟩;cases hp;obtain⟨xr,m0,m1,m3,kd,kw,rfl,⟨dr,dv,wv,hr',hn,hb,hd,hw,_⟩,rfl,rfl⟩:=hR;refine⟨(),x,aP,dx,_,(),hx,ZZ.aq.cl,ZZ.br,rfl,xr,dr,(),hr',GX ..,(),xr,dr,m0,m1,m3,hV m1 m0,mo,dv,wv,kd,kw,rfl,hr',hn,hd,hw,λy' m' k' H' ok' e' s'=>?_⟩
 obtain⟨rfl,rfl,rfl⟩:=ux ok ok' (e.trans e'.symm);rw[Hx hn hb ok e];exact q H' s'
theorem Xf{k0:Nat}:fZ P w K mg base aP "holds" (k0+1) ["self","moment"] (fW (⟨(⟨aD,aF,aG,aI,aE,aA,aH,aJ⟩:Cs),aB,eJ aQ aP aL aM aK aO⟩:Bc) jo 0 .O):=ZZ.co.dfs FL (λ_ _ _ _ h=>h.elim) (λ_ _ _ _ _ _ _ _ _ _ h=>h.elim)
theorem XX{k0 n:Nat}(M0:Mo P w K mg base (⟨(⟨aD,aF,aG,aI,aE,aA,aH,aJ⟩:Cs),aB,eJ aQ aP aL aM aK aO⟩:Bc) "holds" ["self","moment"] (k0+12) (fW (⟨(⟨aD,aF,aG,aI,aE,aA,aH,aJ⟩:Cs),aB,eJ aQ aP aL aM aK aO⟩:Bc) jo n)):fZ P w K mg base aL "holds" (k0+13) ["self","moment"] (fW (⟨(⟨aD,aF,aG,aI,aE,aA,aH,aJ⟩:Cs),aB,eJ aQ aP aL aM aK aO⟩:Bc) jo (n+1) .J):=by
 refine ZZ.bj.dfs Hr (λvs H Q E h=>?_) (λfz cdv Ar outer s H vs Q E hr h=>?_)
 ·obtain⟨A,x,as,b,rfl,_,mo,y,m,k,rfl,ok,e,q⟩:=h;rfl
 obtain⟨A,x,as,b,rfl,⟨dx,fs,us,bs,g,hx,hs,hp,hl,rfl⟩,mo,y,m,k,rfl,ok,e,q⟩:=h;obtain⟨t,rfl,ht,h0,rfl⟩:=hs;refine⟨_,(dX (eF (fX Dr ZZ.hb boot_any (A1 (i9 ["moment"] [1] (iT (jg Y0)) (λ_ _ _ _ _ _=>iq) (λ_ _ _ _ _ _=>(lP (hk:=by omega) M0 hr Y0 k7 Y1))))))),?_⟩;refine⟨(),x,aL,dx,_,(),hx,ZZ.ab.cl,ZZ.ag,rfl,t,rfl,⟨_,SqT.of ht⟩,oo (xs:=us) (λi l=>l=((bs.take i).map λb=>gS b.2.2 mo y m k).map V.bl) (by rw[dI];omega) rfl (SqT.of ht) (λi v l D H2 E' F' hv hR hD s2 hz hE hF=>?_) (λD H2 l hR hD s2 hz=>?_)⟩
 ·subst hR;obtain⟨b,eb,hb⟩:=KM.Paired.at hp hv;exact⟨(),A,_,b,rfl,hb.same s2,mo,y,m,k,rfl,ok,e,λH5 s5=>hE _ _ s5 (by rw[bH,eb,a8,a8];rfl)⟩
 ·subst hR;rw[Paired.length hp,bL] at hz;refine⟨D,(),SqL.of hz,?_⟩;have z:=q H2 s2;rw[show gS (gM lG bs).2.2 mo y m k=_ from EF (Gv hp),cN] at z;rw[cN];exact z
theorem O5{k0:Nat}:fZ P w K mg base aL "holds" (k0+1) ["self","moment"] (fW (⟨(⟨aD,aF,aG,aI,aE,aA,aH,aJ⟩:Cs),aB,eJ aQ aP aL aM aK aO⟩:Bc) jo 0 .J):=ZZ.bj.dfs Hr (λ_ _ _ _ h=>h.elim) (λ_ _ _ _ _ _ _ _ _ _ h=>h.elim)
theorem QS{k0 n:Nat}(M0:Mo P w K mg base (⟨(⟨aD,aF,aG,aI,aE,aA,aH,aJ⟩:Cs),aB,eJ aQ aP aL aM aK aO⟩:Bc) "holds" ["self","moment"] (k0+12) (fW (⟨(⟨aD,aF,aG,aI,aE,aA,aH,aJ⟩:Cs),aB,eJ aQ aP aL aM aK aO⟩:Bc) jo n)):fZ P w K mg base aM "holds" (k0+13) ["self","moment"] (fW (⟨(⟨aD,aF,aG,aI,aE,aA,aH,aJ⟩:Cs),aB,eJ aQ aP aL aM aK aO⟩:Bc) jo (n+1) .M):=by
 refine ZZ.b7.dfs J1 (λvs H Q E h=>?_) (λfz cdv Ar outer s H vs Q E hr h=>?_)
 ·obtain⟨A,x,as,b,rfl,_,mo,y,m,k,rfl,ok,e,q⟩:=h;rfl
 obtain⟨A,x,as,b,rfl,⟨dx,fs,us,bs,g,hx,hs,hp,hl,rfl⟩,mo,y,m,k,rfl,ok,e,q⟩:=h;obtain⟨t,rfl,ht,h0,rfl⟩:=hs;refine⟨_,(dX (eF (fX tD ZZ.dc boot_all (A1 (i9 ["moment"] [1] (iT (jg Y0)) (λ_ _ _ _ _ _=>iq) (λ_ _ _ _ _ _=>(lP (hk:=by omega) M0 hr Y0 k7 Y1))))))),?_⟩;refine⟨(),x,aM,dx,_,(),hx,ZZ.ah.cl,ZZ.ai,rfl,t,rfl,⟨_,SqT.of ht⟩,oo (xs:=us) (λi l=>l=((bs.take i).map λb=>gS b.2.2 mo y m k).map V.bl) (by rw[dI];omega) rfl (SqT.of ht) (λi v l D H2 E' F' hv hR hD s2 hz hE hF=>?_) (λD H2 l hR hD s2 hz=>?_)⟩
 ·subst hR;obtain⟨b,eb,hb⟩:=KM.Paired.at hp hv;exact⟨(),A,_,b,rfl,hb.same s2,mo,y,m,k,rfl,ok,e,λH5 s5=>hE _ _ s5 (by rw[bH,eb,a8,a8];rfl)⟩
 ·subst hR;rw[Paired.length hp,bL] at hz;refine⟨D,(),SqL.of hz,?_⟩;have z:=q H2 s2;rw[show gS (gM k6 bs).2.2 mo y m k=_ from JS (Gv hp),List.all_map] at z;rw[List.all_map];exact z
theorem Na{k0:Nat}:fZ P w K mg base aM "holds" (k0+1) ["self","moment"] (fW (⟨(⟨aD,aF,aG,aI,aE,aA,aH,aJ⟩:Cs),aB,eJ aQ aP aL aM aK aO⟩:Bc) jo 0 .M):=ZZ.b7.dfs J1 (λ_ _ _ _ h=>h.elim) (λ_ _ _ _ _ _ _ _ _ _ h=>h.elim)
theorem Xk{k0 n:Nat}(M0:Mo P w K mg base (⟨(⟨aD,aF,aG,aI,aE,aA,aH,aJ⟩:Cs),aB,eJ aQ aP aL aM aK aO⟩:Bc) "holds" ["self","moment"] (k0+12) (fW (⟨(⟨aD,aF,aG,aI,aE,aA,aH,aJ⟩:Cs),aB,eJ aQ aP aL aM aK aO⟩:Bc) jo n)):fZ P w K mg base aK "holds" (k0+13) ["self","moment"] (fW (⟨(⟨aD,aF,aG,aI,aE,aA,aH,aJ⟩:Cs),aB,eJ aQ aP aL aM aK aO⟩:Bc) jo (n+1) .L):=by
 refine ZZ.b2.dfs Ke (λvs H Q E h=>?_) (λfz cdv Ar outer s H vs Q E hr h=>?_)
 ·obtain⟨A,x,as,b,rfl,_,mo,y,m,k,rfl,ok,e,q⟩:=h;rfl
 obtain⟨A,x,as,b,rfl,⟨dx,fs,us,bs,g,hx,hs,hp,hl,rfl⟩,mo,y,m,k,rfl,ok,e,q⟩:=h;obtain⟨u,w',rfl,rfl,rfl⟩:=hs;refine⟨_,(dX (eF (kE (lP M0 hr (jg Y0) (yz k7) Y1) (jW (mL (lP M0 hr (jg Y0) (yz k7) Y1)))))),?_⟩;obtain⟨b1,b2,rfl,h1,h2⟩:=Fk hp;have q':∀H',Same H H'->Q (.bl (gS b1.2.2 mo y m k&& !gS b2.2.2 mo y m k)) H':=λH' s'=>by
  have z:=q H' s';rw[show gS (gM mq [b1,b2]).2.2 mo y m k=_ from EI h1.ok h2.ok] at z;exact z
 refine⟨(),x,aK,dx,_,(),hx,ZZ.ae.cl,ZZ.ap,rfl,A,_,b1,rfl,h1,mo,y,m,k,rfl,ok,e,λH1 s1=>⟨(),?_⟩⟩;cases c1:gS b1.2.2 mo y m k with
 |false=>
  rw[c1] at q';exact fK (q' H1 s1)
 |true=>
  rw[c1] at q';exact fR ⟨(),x,aK,dx,_,(),s1 _ _ hx,ZZ.ae.cl,ZZ.al,rfl,A,_,b2,rfl,h2.same s1,mo,y,m,k,rfl,ok,e,λH2 s2=>⟨(),q' H2 (s1.trans s2)⟩⟩
theorem Z6{k0:Nat}:fZ P w K mg base aK "holds" (k0+1) ["self","moment"] (fW (⟨(⟨aD,aF,aG,aI,aE,aA,aH,aJ⟩:Cs),aB,eJ aQ aP aL aM aK aO⟩:Bc) jo 0 .L):=ZZ.b2.dfs Ke (λ_ _ _ _ h=>h.elim) (λ_ _ _ _ _ _ _ _ _ _ h=>h.elim)
theorem Oz{k0 n:Nat}(M0:Mo P w K mg base (⟨(⟨aD,aF,aG,aI,aE,aA,aH,aJ⟩:Cs),aB,eJ aQ aP aL aM aK aO⟩:Bc) "holds" ["self","moment"] (k0+12) (fW (⟨(⟨aD,aF,aG,aI,aE,aA,aH,aJ⟩:Cs),aB,eJ aQ aP aL aM aK aO⟩:Bc) jo n)):fZ P w K mg base aO "holds" (k0+13) ["self","moment"] (fW (⟨(⟨aD,aF,aG,aI,aE,aA,aH,aJ⟩:Cs),aB,eJ aQ aP aL aM aK aO⟩:Bc) jo (n+1) .T):=by
 refine ZZ.bk.dfs Ej (λvs H Q E h=>?_) (λfz cdv Ar outer s H vs Q E hr h=>?_)
 ·obtain⟨A,x,as,b,rfl,_,mo,y,m,k,rfl,ok,e,q⟩:=h;rfl
 obtain⟨A,x,as,b,rfl,⟨dx,fs,us,bs,g,hx,hs,hp,hl,rfl⟩,mo,y,m,k,rfl,ok,e,q⟩:=h;obtain⟨u,rfl,rfl,rfl⟩:=hs;refine⟨_,(dX (eF (mL (lP M0 hr (jg Y0) (yz k7) Y1)))),?_⟩;obtain⟨b1,rfl,h1⟩:=wM hp;refine⟨(),x,aO,dx,_,(),hx,ZZ.ac.cl,ZZ.am,rfl,A,_,b1,rfl,h1,mo,y,m,k,rfl,ok,e,λH1 s1=>⟨(),?_⟩⟩;have z:=q H1 s1;rw[show gS (gM j8 [b1]).2.2 mo y m k=_ from zb h1.ok] at z;exact z
theorem QG{k0:Nat}:fZ P w K mg base aO "holds" (k0+1) ["self","moment"] (fW (⟨(⟨aD,aF,aG,aI,aE,aA,aH,aJ⟩:Cs),aB,eJ aQ aP aL aM aK aO⟩:Bc) jo 0 .T):=ZZ.bk.dfs Ej (λ_ _ _ _ h=>h.elim) (λ_ _ _ _ _ _ _ _ _ _ h=>h.elim)
theorem oN:∀n:Nat,Mo P w K mg base (⟨(⟨aD,aF,aG,aI,aE,aA,aH,aJ⟩:Cs),aB,eJ aQ aP aL aM aK aO⟩:Bc) "holds" ["self","moment"] (n+12) (fW (⟨(⟨aD,aF,aG,aI,aE,aA,aH,aJ⟩:Cs),aB,eJ aQ aP aL aM aK aO⟩:Bc) jo n)
 |0=>λi=>by
  cases i with
  |B=>exact⟨ZZ.ak.cl,XZ ZZ (k0:=11)⟩
  |O=>exact⟨ZZ.aq.cl,Xf ZZ (k0:=11)⟩
  |J=>exact⟨ZZ.ab.cl,O5 ZZ (k0:=11)⟩
  |M=>exact⟨ZZ.ah.cl,Na ZZ (k0:=11)⟩
  |L=>exact⟨ZZ.ae.cl,Z6 ZZ (k0:=11)⟩
  |T=>exact⟨ZZ.ac.cl,QG ZZ (k0:=11)⟩
 |n+1=>λi=>by
  have M0:=oN n;cases i with
  |B=>exact⟨ZZ.ak.cl,SA ZZ (k0:=n)⟩
  |O=>exact⟨ZZ.aq.cl,QT ZZ (k0:=n)⟩
  |J=>exact⟨ZZ.ab.cl,XX ZZ (k0:=n) M0⟩
  |M=>exact⟨ZZ.ah.cl,QS ZZ (k0:=n) M0⟩
  |L=>exact⟨ZZ.ae.cl,Xk ZZ (k0:=n) M0⟩
  |T=>exact⟨ZZ.ac.cl,Oz ZZ (k0:=n) M0⟩
theorem qV:Dx P w base ZZ.d3 1 (K1 K):=by
 refine ZZ.d3.dfs L3 (by trivial) ?_;rintro _ _ _ _ s H _ Q E hr⟨a,k,rfl,⟨ns,hS⟩,⟨h0,h9⟩,q⟩;refine⟨_,(eC (eX (eW qM Y1 (fX (kX (K:=K)) ZZ.ao PySem.boot_len (A1 Y0))) (dX (eF (eO (fV (K:=K)) Y0 Y1))) eZ) (dX (eF (dZ ig (dZ iW (dZ nI (dZ fG Y1 eI) eI) eI) eI)))),?_⟩;extract_lets;refine⟨(),(),a,(),.inl hS,(()),(),?_⟩;refine il (λc=>?_) (λc=>?_)
 ·rw[aY] at c;have hk:k.toNat<ns.length:=⋯;have ek:k=((k.toNat:Nat):Int):=⋯;have e:iF (ns.map V.int) k=some (.int ns[k.toNat]):=by
   have z:iF (ns.map V.int) ((k.toNat:Nat):Int)=some (.int ns[k.toNat]):=mH (by rw[bN,cC hk];rfl);rw[←ek] at z;exact z
  refine⟨(),(),a,_,(()),hS,e,?_⟩;exact q _
 ·refine⟨(),(()),(()),⟨by decide,by decide,(by show (k+2).natAbs<2^64;omega)⟩,(()),.inr ⟨by decide,by decide⟩,(()),(by show (0:Int)<15485863;decide),?_⟩;exact q _
theorem VP:Dx P w base ZZ.fq 1 (Vi K):=by
 refine ZZ.fq.dfs Ui (by trivial) ?_;rintro _ _ _ _ s H _ Q E hr⟨n,rfl,q⟩;refine⟨_,(eC (eK 1 (dZ ig (dZ iW (dZ fG (dZ ig Y0 (dZ nI eI eI)) eI) eI) eI) Ui.nd) (eC (eK 2 (dZ ig (dZ iW Y1 (dZ fG (dZ ig Y1 eI) eI)) eI) Ui.nd) (dX (eF (dZ ig (dZ iW Y2 (dZ fG (dZ ig Y2 eI) eI)) eI))))),?_⟩;extract_lets;refine⟨(),(()),⟨by decide,by decide,by decide⟩,(()),(by rw[Mi];show (0:Int)<_;decide),(()),(()),.inr ⟨by decide,by decide⟩,(()),(by show (0:Int)<4294967291;decide),?_⟩
 refine⟨(),(),(()),(by show (0:Int)<65521;decide),(()),(()),KB (by decide) (by decide),(()),(by show (0:Int)<999999937;decide),?_⟩;refine⟨(),(),(()),(by show (0:Int)<32749;decide),(()),(()),KB (by decide) (by decide),(()),(by show (0:Int)<2147483629;decide),?_⟩;exact q _ (cQ _ (by decide)) (cR _ (by decide))
theorem rh:Dx P w base ZZ.el 2 (Yt K):=by
 refine ZZ.el.dfs U5 (by trivial) ?_;rintro _ _ _ _ s H _ Q E hr⟨c,a,b,ss,rfl,hS,hz,hl,q⟩;refine⟨_,(eC (eK 3 (gC aN) U5.nd) (eC (eK 2 (qF Y2 (jW (iD qM (fX Km ZZ.f2 PyProof.Rows.boot_abs (A1 Y0)) (dZ nI eI eI)))) U5.nd) (eC (j9 (kf (K:=K) Y1) (gN 4 U5.nd) (dX (eX (gY Y2) (eC (eK 0 (eD (VP ZZ) hr (A1 Y0)) U5.nd) (dX (lO (n6 Y3 (dZ ig (dZ jO Y0 eI) Y4))))) (eC (lO (n6 Y3 (dZ ig Y0 Y4))) (dX (eK 0 (dZ jO Y0 Y4) U5.nd))))) PassesOwn.never) (dX (eF Y3))))),?_⟩
 extract_lets;refine⟨(zL 0),λfl hfl=>?_⟩;refine⟨(),(),B7 (λ_=>?_) (λ_=>⟨(),(),(()),⟨by decide,by decide,by decide⟩,(()),?_⟩)⟩
 all_goals
  refine⟨(),a,rfl,⟨_,(eE hfl _).seq hS⟩,mM (K:=K) (a:=a) (xs:=ss.map V.int) (λi σ H2=>∃(c':Int) (b':Bool) (u:Option V) (ds:List Int),σ=[some (.int c'),some (.ref a),some (.bl b'),some (.ref fl),u]/\Same H H2/\H2 fl=some (.lst (ds.map V.int))/\Digs ds (ss.take i)) ⟨_,_,_,[],rfl,eE hfl _,dY,.nil⟩ (λi σ H2 _ ⟨_,_,_,_,_,s2,_⟩=>s2.seq hS) ?_ ?_⟩
  ·rintro i x σ H2 hx ⟨c',b',u,ds,rfl,s2,hf,hd⟩;rw[bN] at hx;cases e:ss[i]? with
   |none=>rw[e] at hx;cases hx
   |some z=>
    rw[e] at hx;obtain rfl:V.int z=x:=bF hx;have hzz:=hz z (bU e);have et:ss.take (i+1)=ss.take i++[z]:=by rw[bH,e];rfl
    have hdl:(ds.map V.int).length<sizeLine:=by
     have q1:=hd.len;rw[cX] at q1;rw[aY,dI];omega
    have app:∀d:Int,(ds.map V.int)++[V.int d]=(ds++[d]).map V.int:=λd=>by rw[a8];rfl
    refine⟨(),(),?_⟩;cases b' with
    |true=>
     refine fR ⟨(),(),λr hr0 hr1=>?_⟩;refine⟨(),.inl ⟨rfl,_,SqL.of hf⟩,(),(()),⟨by decide,by decide⟩,(),(()),hzz.1,fl,(()),hf,hdl,?_⟩;refine⟨_,_,_,ds++[r / 8%z],rfl,kM hfl s2,by rw[app];exact dY,?_⟩;rw[et];exact hd.snoc (cQ _ (Int.ne_of_gt hzz.1)) (cR _ hzz.1)
    |false=>
     refine fK ⟨(),.inl ⟨rfl,_,SqL.of hf⟩,(),(),(()),hzz.1,fl,(()),hf,hdl,?_⟩;refine⟨(),(),(()),hzz,?_⟩;refine⟨_,_,_,ds++[c'%z],rfl,kM hfl s2,by rw[app];exact dY,?_⟩;rw[et];exact hd.snoc (cQ _ (Int.ne_of_gt hzz.1)) (cR _ hzz.1)
  ·rintro σ H2 ⟨c',b',u,ds,rfl,s2,hf,hd⟩;rw[aY,bL] at hd;exact⟨(),q ds fl H2 s2 hf hd⟩
theorem ID:Dx P w base ZZ.e7 1 (OR K):=by
 refine ZZ.e7.dfs X7 (by trivial) ?_;rintro _ _ _ _ s H _ Q E hr⟨i,rfl,q⟩;refine⟨_,(dX (eF (kE (fX E1 ZZ.aa PyProof.Rows.boot_isinstance (A2 Y0 (kU ZZ.da PyProof.Rows.boot_int))) (jW (mL (fX FR ZZ.aa PyProof.Rows.boot_isinstance (A2 Y0 (kU ZZ.cu PyProof.Rows.boot_bool)))))))),?_⟩;refine⟨(),(),(),?_⟩;refine fR ?_;refine⟨(),(),(),?_⟩;exact q
theorem DL:Dx P w base ZZ.e8 1 (ao8 K):=by
 refine ZZ.e8.dfs U6 (by trivial) ?_;rintro _ _ A _ s H _ Q E hr⟨p,d0,d1,d2,d3,lo,hi,rfl,hp,h0,h3,hb,q⟩;refine⟨_,(eC (eK 3 (dZ fG Y1 (dZ ig (eO (fV (K:=K)) Y0 eI) (dZ fG (dZ gW Y2 Y1) eI))) U6.nd) (iN (eK 4 (dZ fG Y3 (dZ ig (eO (fV (K:=K)) Y0 eI) (dZ fG (dZ gW Y2 Y3) eI))) U6.nd) (eC (eK 5 (jd kr ZZ.aj PyProof.Rows.boot_str (A1 (dZ fG eI (eO (fV (K:=K)) Y0 eI)))) U6.nd) (eC (eK 6 (gC (aC (eV [42]) (aC (jd kr ZZ.aj PyProof.Rows.boot_str (A1 Y3)) (aC (dZ jr (dZ jr (jd kr ZZ.aj PyProof.Rows.boot_str (A1 Y3)) (eV [45])) (jd kr ZZ.aj PyProof.Rows.boot_str (A1 Y4))) (A3 (dZ jr (eV [42,47]) Y5) (dZ jr (dZ jr (jd kr ZZ.aj PyProof.Rows.boot_str (A1 Y3)) (eV [44])) (jd kr ZZ.aj PyProof.Rows.boot_str (A1 Y4))) (jd kr ZZ.aj PyProof.Rows.boot_str (A1 Y4))))))) U6.nd) (eC (lO (n6 Y6 (dZ jr (dZ jr (dZ jr (dZ jr (jd kr ZZ.aj PyProof.Rows.boot_str (A1 Y3)) (eV [45])) (jd kr ZZ.aj PyProof.Rows.boot_str (A1 Y4))) (eV [47])) Y5))) (dX (eF (eO (fV (K:=K)) Y6 (eO (fV (K:=K)) Y0 eI))))))))),?_⟩
 extract_lets;have sm:∀z:Int,0<=z->z<=99->z.toNat<10^500/\[V.int z]=[V.int (z.toNat:Nat)]:=λz h1 h2=>⟨bC (show z.toNat<100 by omega) (by decide +kernel),by rw[bZ h1]⟩;have nl:∀z:Int,0<=z->z<=99->(num z.toNat).length<=2:=λz h1 h2=>(lE _ ⋯).2.2.2;have z4':∀{n m:Nat},n<=20->m<=20->n+m<=sizeLine:=λ{n m} h1 h2=>by rw[dI];omega
 have h63:hi<=63:=⋯;have p1:0<hi-lo+1:=⋯;have m0:=cQ d1 (show (hi-lo+1)≠0 by omega);have m1:=cR d1 p1;refine⟨(),(),p,_,(()),SqL.of (hp),rfl,(),(),(()),(()),(()),p1,(()),?_⟩;obtain⟨A,eA⟩:∃A,A=lo+d1%(hi-lo+1):=⟨()⟩;show jy 3 (V.int (lo+d1%(hi-lo+1))) _ _ _;rw[←eA];have p2:0<hi-A+1:=⋯;have n0:=cQ d2 (show (hi-A+1)≠0 by omega);have n1:=cR d2 p2;refine⟨λσ' H'=>H'=H/\∃B,σ'=[some (.ref p),some (.int lo),some (.int hi),some (.int A),some (.int B),none,none]/\(lo<=A/\A<=B)/\B<=hi,⟨(),(),p,_,(()),SqL.of (hp),rfl,(),(),(()),(()),(()),p2,(()),rfl,(),⟨⋯,⋯⟩,⋯⟩,?_⟩
 rintro σ' H' ⟨rfl,B,rfl,ha,hB⟩;clear p1 p2 m0 m1 n0 n1 eA;obtain⟨S,eS,hS⟩:∃S,S=1+d3/\(1<=S/\S<=99):=⟨(),⋯,⋯⟩;have A0:0<=A/\A<=99:=⋯;have B0:0<=B/\B<=99:=⋯;have S0:0<=S/\S<=99:=⋯;have qA:=sm A A0.1 A0.2;have qB:=sm B B0.1 B0.2;have qS:=sm S S0.1 S0.2;have lA:=nl A A0.1 A0.2;have lB:=nl B B0.1 B0.2;have lS:=nl S S0.1 S0.2;have IA:=i1 (a:=A) hb.1 ha.1 ⋯ h63;have IB:=i1 (a:=B) hb.1 ⋯ hB h63;refine⟨(),p,_,(()),SqL.of (hp),rfl,(()),S.toNat,by show [V.int (1+d3)]=_;rw[←eS];exact qS.2,qS.1,?_⟩
 refine⟨(),A.toNat,qA.2,qA.1,(),A.toNat,qA.2,qA.1,(()),z4' ⋯ (by decide),(),B.toNat,qB.2,qB.1,(()),z4' (by rw[aZ];show _+1<=20;omega) ⋯,(),(()),z4' (by decide) ⋯,(),A.toNat,qA.2,qA.1,(()),z4' ⋯ (by decide),(),B.toNat,qB.2,qB.1,(()),z4' (by rw[aZ];show _+1<=20;omega) ⋯,(),B.toNat,qB.2,qB.1,(zL 6),λl hl=>?_⟩;refine⟨(),.inl ⟨rfl,_,SqL.of dY⟩,(),A.toNat,qA.2,qA.1,(()),z4' ⋯ (by decide),(),B.toNat,qB.2,qB.1,(()),z4' (by rw[aZ];show _+1<=20;omega) ⋯,(()),z4' (by rw[aZ,aZ];show _+1+_<=20;omega) (by decide),(),(()),z4' (by rw[aZ,aZ,aZ];show _+1+_+1<=20;omega) ⋯,l,(()),dY,(by show 6<sizeLine;decide),?_⟩
 have sA:Same H' (upd (upd H' l (.lst [.str (Tx [42]),.str (Tx (num A.toNat)),.str (Tx (num A.toNat++[45]++num B.toNat)),.str (Tx ([42,47]++num S.toNat)),.str (Tx (num A.toNat++[44]++num B.toNat)),.str (Tx (num B.toNat))])) l (.lst ([.str (Tx [42]),.str (Tx (num A.toNat)),.str (Tx (num A.toNat++[45]++num B.toNat)),.str (Tx ([42,47]++num S.toNat)),.str (Tx (num A.toNat++[44]++num B.toNat)),.str (Tx (num B.toNat))]++[.str (Tx (num A.toNat++[45]++num B.toNat++[47]++num S.toNat))]))):=kM hl (eE hl _)
 have eY:∀{ws:List (List Nat)} {nss:List (List Int)} {t:List Nat},Paired (kq lo hi) ws nss->ws≠[]->ws.length<=20->gT 44 ws=t->∃m,FT lo hi t m/\m<2^(hi.toNat+1):=λh1 h2 h3 e=>by rw[←e];exact C1 h1 h2 h3 hb.1 ⋯
 obtain⟨n,rfl⟩:∃n:Nat,d0=n:=⟨d0.toNat,⋯⟩;have hpl:=sA _ _ hp
 match n,h0 with
 |0,_=>
  obtain⟨m,f1,f2⟩:=eY (ws:=[[42]]) (nss:=[iB lo hi 1]) (t:=[42]) (.cons (i0 hb.1 hb.2.1 h63) .nil) (cD _ _) (by show 1<=20;decide) (by simp[gT]);exact⟨(),(),p,_,(()),SqL.of hpl,rfl,l,_,(()),SqL.of dY,rfl,q _ m _ sA f1 f2⟩
 |1,_=>
  obtain⟨m,f1,f2⟩:=eY (ws:=[num A.toNat]) (nss:=[[A]]) (t:=num A.toNat) (.cons IA .nil) (cD _ _) (by show 1<=20;decide) (by simp[gT]);exact⟨(),(),p,_,(()),SqL.of hpl,rfl,l,_,(()),SqL.of dY,rfl,q _ m _ sA f1 f2⟩
 |2,_=>
  obtain⟨m,f1,f2⟩:=eY (ws:=[num A.toNat++45::num B.toNat]) (nss:=[iB A B 1]) (t:=num A.toNat++[45]++num B.toNat) (.cons (i2 hb.1 ha.1 ha.2 hB h63) .nil) (cD _ _) (by show 1<=20;decide) (by simp[gT]);exact⟨(),(),p,_,(()),SqL.of hpl,rfl,l,_,(()),SqL.of dY,rfl,q _ m _ sA f1 f2⟩
 |3,_=>
  obtain⟨m,f1,f2⟩:=eY (ws:=[[42]++47::num S.toNat]) (nss:=[iB lo hi S]) (t:=[42,47]++num S.toNat) (.cons (i3 hb.1 hb.2.1 h63 hS) .nil) (cD _ _) (by show 1<=20;decide) (by simp[gT]);exact⟨(),(),p,_,(()),SqL.of hpl,rfl,l,_,(()),SqL.of dY,rfl,q _ m _ sA f1 f2⟩
 |4,_=>
  obtain⟨m,f1,f2⟩:=eY (ws:=[num A.toNat,num B.toNat]) (nss:=[[A],[B]]) (t:=num A.toNat++[44]++num B.toNat) (.cons IA (.cons IB .nil)) (cD _ _) (by show 2<=20;decide) (by simp[gT]);exact⟨(),(),p,_,(()),SqL.of hpl,rfl,l,_,(()),SqL.of dY,rfl,q _ m _ sA f1 f2⟩
 |5,_=>
  obtain⟨m,f1,f2⟩:=eY (ws:=[num B.toNat]) (nss:=[[B]]) (t:=num B.toNat) (.cons IB .nil) (cD _ _) (by show 1<=20;decide) (by simp[gT]);exact⟨(),(),p,_,(()),SqL.of hpl,rfl,l,_,(()),SqL.of dY,rfl,q _ m _ sA f1 f2⟩
 |6,_=>
  obtain⟨m,f1,f2⟩:=eY (ws:=[(num A.toNat++45::num B.toNat)++47::num S.toNat]) (nss:=[iB A B S]) (t:=num A.toNat++[45]++num B.toNat++[47]++num S.toNat) (.cons (i5 hb.1 ha.1 ha.2 hB h63 hS) .nil) (cD _ _) (by show 1<=20;decide) (by simp[gT]);exact⟨(),(),p,_,(()),SqL.of hpl,rfl,l,_,(()),SqL.of dY,rfl,q _ m _ sA f1 f2⟩
 |n+7,h=>exact absurd h.2 (by have:((n+7:Nat):Int)=(n:Int)+7:=rfl;omega)
theorem atD:Dx P w base ZZ.gi 12 (YR K aD aF aG aI aE aA aH aJ aB):=by
 refine ZZ.gi.dfs Ue (by trivial) ?_;rintro _ _ _ _ s H _ Q E hr⟨c,bm,rfl,q⟩;refine⟨_,(eC (eK 2 (eD (rh ZZ) hr (A3 Y0 (gC (FF [8,2,12,31,10,8,5,7,12,12,9,7,24,24,9,7,60,60,9])) Y1)) Ue.nd) (eC (eK 3 (jd kr ZZ.aj PyProof.Rows.boot_str (A1 (dZ fG eI (eO (fV (K:=K)) Y2 eI)))) Ue.nd) (iN (eK 4 (jd kr ZZ.aj PyProof.Rows.boot_str (A1 (eO (fV (K:=K)) Y2 eI))) Ue.nd) (eC (eK 5 (gC (aC (eV [42]) (aC Y3 (aC (eV [42]) (aC (eV [76]) (aC (dZ jr (eV [76,45]) Y3) (aC (dZ jr Y3 (eV [87])) (aC (eV [76,87]) (aC (eV [50,57]) (aC (eV [42]) (A3 (eV [51,49]) (dZ jr (eV [49,45,55,44]) Y3) (eV [42,47,50])))))))))))) Ue.nd) (iN (eX (eW fU (eO (fV (K:=K)) Y2 eI) eI) (dX (pX (eV [76,45,51,48]) (JE Y5 eI))) eZ) (iN (eK 6 (gC (aC (eV [42]) (aC (eV [42]) (aC (eV [49,45,53]) (aC Y4 (aC (dZ jr (dZ jr Y4 (eV [35])) (jd kr ZZ.aj PyProof.Rows.boot_str (A1 (dZ fG eI (eO (fV (K:=K)) Y2 eI))))) (aC (dZ jr Y4 (eV [76])) (aC (dZ jr Y4 (eV [35,53])) (A3 (eV [53,45,55]) (eV [42]) (eV [42])))))))))) Ue.nd) (iN (eK 7 (gC (A3 (eD (DL ZZ) hr (A3 (lV (pJ (K:=K)) Y2 (ku eI) mr) eI eI)) (eD (DL ZZ) hr (A3 (lV (pJ (K:=K)) Y2 (ku eI) (ku eI)) eI eI)) (eO (fV (K:=K)) Y5 (eO (fV (K:=K)) Y2 eI)))) Ue.nd) (iN (eK 7 (dZ Bq Y7 (gC (A2 (eD (DL ZZ) hr (A3 (lV (pJ (K:=K)) Y2 (ku eI) (ku eI)) eI eI)) (eO (fV (K:=K)) Y6 (eO (fV (K:=K)) Y2 eI))))) Ue.nd) (iN (eX (eW fU (eO (fV (K:=K)) Y2 eI) eI) (dX (pX (gC (A3 (eO (fV (K:=K)) (gC (A2 (eV [50,57]) (eV [42]))) (eO (fV (K:=K)) Y2 eI)) (eV [50]) (eO (fV (K:=K)) (gC (A2 (eV [42]) (dZ jr Y4 (eV [35,53])))) (eO (fV (K:=K)) Y2 eI)))) (PZ Y7 (ku eI) mr))) eZ) (dX (eF (eD (MK ZZ) hr (A1 (aMQ (eV [32]) Y7)))))))))))))),?_⟩
 extract_lets;have sm:∀z:Int,0<=z->z<=99->z.toNat<10^500/\[V.int z]=[V.int (z.toNat:Nat)]:=λz h1 h2=>⟨bC (show z.toNat<100 by omega) (by decide +kernel),by rw[bZ h1]⟩;have nl:∀z:Int,0<=z->z<=99->(num z.toNat).length<=2:=λz h1 h2=>(lE _ ⋯).2.2.2;have z4':∀{n m:Nat},n<=20->m<=20->n+m<=sizeLine:=λ{n m} h1 h2=>by rw[dI];omega
 refine⟨(),(zL 19),λls hls=>⟨(),c,ls,bm,[8,2,12,31,10,8,5,7,12,12,9,7,24,24,9,7,60,60,9],rfl,SqL.of dY,(by decide),(by decide),λds p H1 s1 hp hd=>?_⟩⟩;have sX:=(eE hls (.lst (([8,2,12,31,10,8,5,7,12,12,9,7,24,24,9,7,60,60,9]:List Int).map V.int))).trans s1;obtain⟨x0,x1,x2,x3,x4,x5,x6,x7,x8,x9,x10,x11,x12,x13,x14,x15,x16,x17,x18,rfl,h0,h1,h2,h3,h4,h5,h6,h7,h8,h9,h10,h11,h12,h13,h14,h15,h16,h17,h18⟩:=Mr hd
 clear hd
 replace hp:H1 p=some (.lst [.int x0,.int x1,.int x2,.int x3,.int x4,.int x5,.int x6,.int x7,.int x8,.int x9,.int x10,.int x11,.int x12,.int x13,.int x14,.int x15,.int x16,.int x17,.int x18]):=hp
 obtain⟨n,en,hn1,hn2⟩:∃n:Nat,1+x3=(n:Int)/\1<=n/\n<=31:=⟨(1+x3).toNat,⋯,⋯,⋯⟩;obtain⟨d,rfl,hd7⟩:∃d:Nat,x5=(d:Int)/\d<=7:=⟨x5.toNat,⋯,⋯⟩;obtain⟨m,em,hm1,hm5⟩:∃m:Nat,1+x6=(m:Int)/\1<=m/\m<=5:=⟨(1+x6).toNat,⋯,⋯,⋯⟩;have big:∀{z:Nat},z<=99->z<10^500:=λh=>bC (Nat.lt_succ_of_le h) (by decide +kernel);have ln:(num n).length<=2:=(lE n ⋯).2.2.2;have ld:(num d).length<=2:=(lE d ⋯).2.2.2;have lm:(num m).length<=2:=(lE m ⋯).2.2.2
 refine⟨(),p,_,(()),SqL.of (hp),rfl,(()),n,(by show [V.int (1+x3)]=_;rw[en]),big ⋯,?_⟩;refine⟨λσ' H'=>σ'=[some (.int c),some (.bl bm),some (.ref p),some (.str (Tx (num n))),some (.str (Tx (num d))),none,none,none]/\H'=H1,⟨(),p,_,(()),SqL.of (hp),rfl,d,rfl,big ⋯,rfl,rfl⟩,?_⟩;rintro σ' H' ⟨rfl,rfl⟩;refine⟨(),(),(()),z4' (by decide) ⋯,(),(()),z4' ⋯ (by decide),(),(()),z4' (by decide) ⋯,(zL 12),λl hl=>?_⟩
 refine⟨λσ' H2=>σ'=[some (.int c),some (.bl bm),some (.ref p),some (.str (Tx (num n))),some (.str (Tx (num d))),some (.ref l),none,none]/\Same H' H2/\H2 l=some (.lst ((nj n).map λt=>V.str (Tx t))),?_,?_⟩
 ·refine⟨(),p,_,(()),SqL.of ((eE hl _) _ _ hp),rfl,rfl,(),gX (λc3=>?_) (λc3=>⟨rfl,eE hl _,?_⟩)⟩
  ·have e31:n=31:=⋯;refine⟨(),l,_,4,4,rfl,rfl,dY,rfl,rfl,kM hl (eE hl _),?_⟩;rw[dY,e31];rfl
  ·rw[dY];unfold nj;rw[if_neg (show ¬n=31 by omega)];rfl
 rintro σ' H2 ⟨rfl,s2,hl2⟩;have hp2:=s2 _ _ hp;refine⟨λσ' H3=>∃l2,σ'=[some (.int c),some (.bl bm),some (.ref p),some (.str (Tx (num n))),some (.str (Tx (num d))),some (.ref l),some (.ref l2),none]/\Same H2 H3/\H3 l2=some (.lst ((oZ d m).map λt=>V.str (Tx t))),?_,?_⟩
 ·refine⟨(),(),(()),z4' ⋯ (by decide),(),p,_,(()),SqL.of (hp2),rfl,(()),m,(by show [V.int (1+x6)]=_;rw[em]),big ⋯,(()),z4' (by rw[aZ];show _+1<=20;omega) ⋯,(),(()),z4' ⋯ (by decide),(),(()),z4' ⋯ (by decide),(zL 10),λl2 hl2'=>⟨l2,rfl,eE hl2' _,dY⟩⟩
 rintro σ' H3 ⟨l2,rfl,s3,hl3⟩;have hp3:=s3 _ _ hp2;have hd3:=s3 _ _ hl2;obtain⟨td,htd,etd⟩:=qo (ts:=nj n) (i:=x2) h2.1 (by show x2<12;exact h2.2);obtain⟨tw,htw,etw⟩:=qo (ts:=oZ d m) (i:=x4) h4.1 (by show x4<10;exact h4.2);obtain⟨kd,hkd⟩:=Fz hn1 hn2 td htd;obtain⟨kw,hkw⟩:=JG hd7 hm1 hm5 tw htw;refine⟨λσ' H4=>∃(wl:Addr) (t0 t1:List Nat) (m0 m1:Int),σ'=[some (.int c),some (.bl bm),some (.ref p),some (.str (Tx (num n))),some (.str (Tx (num d))),some (.ref l),some (.ref l2),some (.ref wl)]/\Same H3 H4/\H4 wl=some (.lst [.str (Tx t0),.str (Tx t1),.str (Tx td)])/\FT 0 59 t0 m0/\m0<2^60/\FT 0 23 t1 m1/\m1<2^24,?_,?_⟩
 ·refine⟨(),(),p,(),SqL.of hp3,λp1 hp1=>⟨p1,x15,x16,x17,x18,0,59,rfl,dY,h15,h18,⟨by decide,by decide,by decide⟩,λt0 m0 H4 s4 f0 b0=>?_⟩⟩;have s34:=(eE hp1 (.lst [.int x15,.int x16,.int x17,.int x18])).trans s4;refine⟨(),(),(),p,(),SqL.of (s34 _ _ hp3),λp2 hp2'=>⟨p2,x11,x12,x13,x14,0,23,rfl,dY,h11,h14,⟨by decide,by decide,by decide⟩,λt1 m1 H5 s5 f1 b1=>?_⟩⟩;have s35:=s34.trans ((eE hp2' (.lst [.int x11,.int x12,.int x13,.int x14])).trans s5)
  exact⟨(),(),p,_,(()),SqL.of (s35 _ _ hp3),rfl,l,_,(()),SqL.of (s35 _ _ hd3),etd,(zL 3),λwl hwl=>⟨wl,t0,t1,m0,m1,rfl,s35.trans (eE hwl _),dY,f0,b0,f1,b1⟩⟩
 rintro σ' H4 ⟨wl,t0,t1,m0,m1,rfl,s4,hwl,f0,b0,f1,b1⟩;refine⟨λσ' H5=>∃(wl:Addr) (t3:List Nat) (m3:Int),σ'=[some (.int c),some (.bl bm),some (.ref p),some (.str (Tx (num n))),some (.str (Tx (num d))),some (.ref l),some (.ref l2),some (.ref wl)]/\Same H4 H5/\H4 wl=none/\H5 wl=some (.lst [.str (Tx t0),.str (Tx t1),.str (Tx td),.str (Tx t3),.str (Tx tw)])/\FT 1 12 t3 m3,?_,?_⟩
 ·refine⟨(),(),(),(),p,(),SqL.of (s4 _ _ hp3),λp3 hp3'=>⟨p3,x7,x8,x9,x10,1,12,rfl,dY,h7,h10,⟨by decide,by decide,by decide⟩,λt3 m3 H5 s5 f3 b3=>?_⟩⟩;have s45:=(eE hp3' (.lst [.int x7,.int x8,.int x9,.int x10])).trans s5;have s35:=s4.trans s45;exact⟨(),(),p,_,(()),SqL.of (s35 _ _ hp3),rfl,l2,_,(()),SqL.of (s35 _ _ hl3),etw,(zL 2),λq2 hq2=>⟨wl,q2,(()),SqL.of ((eE hq2 _) _ _ (s45 _ _ hwl)),SqL.of dY,(by show 3+2<=sizeLine;decide),λw2 hw2=>⟨w2,t3,m3,rfl,s45.trans ((eE hq2 _).trans (eE hw2 _)),(s45.trans (eE hq2 _)).none hw2,dY,f3⟩⟩⟩
 rintro σ' H5 ⟨wl,t3,m3,rfl,s5,nwl,hwl5,f3⟩;have s35:=s4.trans s5;refine⟨λσ' H6=>∃(t2 t3 t4:List Nat) (m3:Int) (kd kw:Ko),σ'=[some (.int c),some (.bl bm),some (.ref p),some (.str (Tx (num n))),some (.str (Tx (num d))),some (.ref l),some (.ref l2),some (.ref wl)]/\Same H4 H6/\H6 wl=some (.lst [.str (Tx t0),.str (Tx t1),.str (Tx t2),.str (Tx t3),.str (Tx t4)])/\FT 1 12 t3 m3/\DT false t2 kd/\DT true t4 kw,?_,?_⟩
 ·refine⟨(),p,_,(()),SqL.of (s35 _ _ hp3),rfl,rfl,(),gX (λc0=>?_) (λc0=>⟨td,t3,tw,m3,kd,kw,rfl,s5,hwl5,f3,hkd,hkw⟩)⟩;obtain⟨ta,hta,eta⟩:=qo (ts:=[[50,57],[42]]) (i:=x1) h1.1 (by show x1<2;exact h1.2);obtain⟨tb',htb,etb⟩:=qo (ts:=[[42],num d++[35,53]]) (i:=x1) h1.1 (by show x1<2;exact h1.2);obtain⟨ka,hka⟩:∃ko,DT false ta ko:=by
   rcases bA.mp hta with rfl | hta
   ·exact Fz (n:=1) (by decide) (by decide) _ (by simp[nj])
   ·rw[bW.mp hta];exact⟨_,lQ false⟩
  obtain⟨kb,hkb⟩:∃ko,DT true tb' ko:=by
   rcases bA.mp htb with rfl | htb
   ·exact⟨_,lQ true⟩
   ·rw[bW.mp htb];exact JG hd7 hm1 hm5 _ (by simp[oZ])
  have f2:FT 1 12 [50] (iK [2]):=aJZ (a:=2) ⟨by decide,by decide,by decide,by decide⟩ oJ.2.2.2.2;refine⟨(zL 2),λq1 hq1=>⟨(),p,_,(()),SqL.of ((eE hq1 _) _ _ (s35 _ _ hp3)),rfl,q1,_,(()),SqL.of dY,eta,?_⟩⟩;have sq1:=eE hq1 (.lst [.str (Tx [50,57]),.str (Tx [42])]);refine⟨(),(()),z4' ⋯ (by decide),(zL 2),λq2 hq2=>⟨(),p,_,(()),SqL.of ((eE hq2 _) _ _ (sq1 _ _ (s35 _ _ hp3))),rfl,q2,_,(()),SqL.of dY,etb,(zL 3),λq3 hq3=>?_⟩⟩
  have sq2:=eE hq2 (.lst [.str (Tx [42]),.str (Tx (num d++[35,53]))]);have sq3:=eE hq3 (.lst [.str (Tx ta),.str (Tx [50]),.str (Tx tb')]);have hw6:=(sq1.trans (sq2.trans sq3)) _ _ hwl5;exact⟨(),(),wl,q3,(()),(λe=>by rw[←e,(sq1.trans sq2) _ _ hwl5] at hq3;cases hq3),hw6,SqL.of dY,(by show 5+3<=sizeLine;decide),ta,[50],tb',_,ka,kb,rfl,kM nwl (s5.trans (sq1.trans (sq2.trans sq3))),dY,f2,hka,hkb⟩
 rintro σ' H6 ⟨t2,t3,t4,m3,kd,kw,rfl,s6,hwl6,f3,hkd,hkw⟩;have jl:(gT 32 [t0,t1,t2,t3,t4]).length<=1600:=by
  have:=f0.len;have:=f1.len;have:=f3.len;have:=hkd.2.1.len;have:=hkw.2.1.len;show (t0++32::(t1++32::(t2++32::(t3++32::t4)))).length<=1600;simp only[aZ,bX];omega
 refine⟨rfl,(),32,wl,[t0,t1,t2,t3,t4],rfl,rfl,SqL.of hwl6,⋯,t0,t1,t2,t3,t4,m0,m1,m3,kd,kw,rfl,f0,f1,f3,hkd,hkw,⟨b0,b1⟩,λx dx dv wv tm H7 htm s7 hx hdv hwv fr=>?_⟩;subst htm;have sB:=sX.trans (s2.trans (s3.trans (s4.trans s6)));exact q x m0 m1 m3 _ _ H7 (sB.trans s7) ⟨dx,dv,wv,hx,⟨f0.nn,f1.nn,f3.nn⟩,⟨b1,b0⟩,hdv,hwv,λp e=>sB.none (fr.2.1 p e),λp e=>sB.none (fr.2.2 p e)⟩
theorem FE{k0 lv:Nat}{sp0:Sp}(hs:∀m,lv=m+1->sp0=p5 K (⟨(⟨aD,aF,aG,aI,aE,aA,aH,aJ⟩:Cs),aB,eJ aQ aP aL aM aK aO⟩:Bc) m)(D0:Df P w K mg base "_law_tree" (k0+20) ["_law_script","_law_n","_law_deep","_law_mixed"] sp0):Df P w K mg base "_law_tree" (k0+21) ["_law_script","_law_n","_law_deep","_law_mixed"] (p5 K (⟨(⟨aD,aF,aG,aI,aE,aA,aH,aJ⟩:Cs),aB,eJ aQ aP aL aM aK aO⟩:Bc) lv):=by
 refine ZZ.b8.dfs Uj (λvs H Q E h=>?_) (λfz cdv A outer s H vs Q E hr h=>?_)
 ·obtain⟨a,n,bm,ns,rfl,_⟩:=h;rfl
 obtain⟨a,n,bm,ns,rfl,hS,hn,q⟩:=h;have hn':n+2<=450:=bR (Nat.le_mul_of_pos_right _ (Nat.pow_pos (by decide))) hn;refine⟨_,(eC (eK 4 (eD (hk:=by omega) (rh ZZ) hr (A3 (eD (hk:=by omega) (qV ZZ) hr (A2 Y0 (dZ fG eI (dZ iW eI Y1)))) (gC (A3 eI eI eI)) Y3)) Uj.nd) (eC (eX (tW (iU (eW fU Y2 eI) (jB (eW qM (eO xL Y4 eI) eI)))) (eC (eX (eW fU (eO xL Y4 eI) eI) (dX (eF (ij (A2 (eV [110,111,110,101]) (gC aN))))) eZ) (eC (eK 5 (eD (hk:=by omega) (atD ZZ) hr (A2 (eD (hk:=by omega) (qV ZZ) hr (A2 Y0 (dZ fG eI (dZ iW eI Y1)))) Y3)) Uj.nd) (dX (eF (ij (A2 (eV [114,111,119]) (gC (A2 Y5 (Gs (hk:=by omega) ZZ.ad.cl (asK ZZ) hr Y5))))))))) eZ) (eC (eK 6 (eO xL (gC (aC (eV [106,111,105,110]) (aC (eV [109,101,101,116]) (aC (eV [108,101,115,115]) (aC (eV [116,117,114,110]) (A3 (eV [106,111,105,110]) (eV [108,101,115,115]) (eV [116,117,114,110]))))))) (dZ gW (eO xL Y4 eI) eI)) Uj.nd) (eC (eK 7 (JQ hr (Nd (rJ (eV [106,111,105,110]) (dZ fG eI (eO xL Y4 eI)) (rJ (eV [109,101,101,116]) (dZ fG eI (eO xL Y4 eI)) (rJ (eV [108,101,115,115]) eI (rJ (eV [116,117,114,110]) eI VB))))) Y6) Uj.nd) (dX (eF (ij (A2 Y6 (i9 ["_law_script","_law_mixed","_law_deep","_law_n"] [0,3,2,1] (oP ZZ.ar (A1 Y7)) (λ_ _ _ _ _ _=>iq) (λ_ _ _ _ _ _=>(j4 D0 hr (aC Y1 (A3 (dZ fG (dZ fG (dZ iW eI Y4) eI) Y0) (dZ gW Y3 eI) Y2))))))))))))),?_⟩
 extract_lets;refine⟨(),(),(()),.inl ⟨by decide,by decide⟩,(()),a,(),⟨ns,hS⟩,⟨⋯,⋯⟩,λc=>⟨(zL 3),λls hls=>⟨(),c,ls,bm,[9,3,16],rfl,SqL.of dY,(by decide),(by decide),λds p H1 s1 hp hd=>?_⟩⟩⟩;have sX:=(eE hls (.lst (([9,3,16]:List Int).map V.int))).trans s1;obtain⟨x0,r0,rfl,b0,hd⟩:=hG hd;obtain⟨x1,r1,rfl,b1,hd⟩:=hG hd;obtain⟨x2,r2,rfl,b2,hd⟩:=hG hd;obtain rfl:=qz hd
 replace hp:H1 p=some (.lst [.int x0,.int x1,.int x2]):=hp
 cases lv with
 |zero=>
  refine⟨(),rfl,(),gX (λ_=>fR ?_) (λc=>absurd rfl c)⟩;refine⟨(),p,_,(()),SqL.of hp,rfl,rfl,(),gX (λc3=>?_) (λc3=>?_)⟩
  ·exact⟨(zL 0),λl hl=>⟨(zL 2),λt ht=>q t _ _ (sX.trans ((eE hl _).trans (eE ht _))) ⟨.B,t,l,[],[],[],(),dY,sX.none hl,eE ht _ _ _ dY,⟨rfl,rfl,rfl⟩,.nil,rfl⟩ (pD (by decide) λ_ h=>nomatch h)⟩⟩
  ·refine⟨(),(),(()),.inl ⟨by decide,by decide⟩,(()),a,(),⟨ns,sX.seq hS⟩,⟨⋯,⋯⟩,λc2=>⟨(),c2,bm,rfl,λx m0 m1 m3 kd kw H2 s2 hR=>?_⟩⟩;obtain⟨dx,dv,wv,hx,_⟩:=id hR;refine⟨(),(),x,dx,(),hx,FS ..,x,dx,m0,m1,m3,_,dv,wv,rfl,hx,(zL 2),λl hl=>⟨(zL 2),λt ht=>q t _ _ (sX.trans (s2.trans ((eE hl _).trans (eE ht _)))) ⟨.O,t,l,_,[],[],(),dY,(sX.trans s2).none hl,eE ht _ _ _ dY,⟨.ref x,hV m1 m0,(),rfl,⟨x,m0,m1,m3,kd,kw,rfl,hR.go (λ_ z=>sX.none z) (iu ((eE hl _).trans (eE ht _))),rfl,rfl⟩,rfl⟩,.nil,rfl⟩ (pD (by decide) λ_ h=>nomatch h)⟩⟩
 |succ m=>
  obtain rfl:=hs m rfl;refine⟨(),rfl,(),gX (λc=>absurd c (by have:((m+1:Nat):Int)=(m:Int)+1:=rfl;omega)) (λ_=>⟨(),p,_,(()),SqL.of hp,rfl,(()),(),il (λ_=>?_) (λc0=>?_)⟩)⟩
  ·refine⟨(),p,_,(()),SqL.of hp,rfl,rfl,(),gX (λc3=>?_) (λc3=>?_)⟩
   ·exact⟨(zL 0),λl hl=>⟨(zL 2),λt ht=>q t _ _ (sX.trans ((eE hl _).trans (eE ht _))) ⟨.B,t,l,[],[],[],(),dY,sX.none hl,eE ht _ _ _ dY,⟨rfl,rfl,rfl⟩,.nil,rfl⟩ (pD (by decide) λ_ h=>nomatch h)⟩⟩
   ·refine⟨(),(),(()),.inl ⟨by decide,by decide⟩,(()),a,(),⟨ns,sX.seq hS⟩,⟨⋯,⋯⟩,λc2=>⟨(),c2,bm,rfl,λx m0 m1 m3 kd kw H2 s2 hR=>?_⟩⟩;obtain⟨dx,dv,wv,hx,_⟩:=id hR;refine⟨(),(),x,dx,(),hx,FS ..,x,dx,m0,m1,m3,_,dv,wv,rfl,hx,(zL 2),λl hl=>⟨(zL 2),λt ht=>q t _ _ (sX.trans (s2.trans ((eE hl _).trans (eE ht _)))) ⟨.O,t,l,_,[],[],(),dY,(sX.trans s2).none hl,eE ht _ _ _ dY,⟨.ref x,hV m1 m0,(),rfl,⟨x,m0,m1,m3,kd,kw,rfl,hR.go (λ_ z=>sX.none z) (iu ((eE hl _).trans (eE ht _))),rfl,rfl⟩,rfl⟩,.nil,rfl⟩ (pD (by decide) λ_ h=>nomatch h)⟩⟩
  obtain⟨kc,ewd,hkc⟩:=LP (i:=x0-2) ⋯ ⋯;refine⟨(zL 7),λwl hwl=>⟨(),p,_,(()),SqL.of ((eE hwl _) _ _ hp),rfl,(()),wl,_,(()),SqL.of dY,ewd,?_⟩⟩;have sw:=eE hwl (.lst [.str (Tx [106,111,105,110]),.str (Tx [109,101,101,116]),.str (Tx [108,101,115,115]),.str (Tx [116,117,114,110]),.str (Tx [106,111,105,110]),.str (Tx [108,101,115,115]),.str (Tx [116,117,114,110])]);obtain⟨M,eM,hM3,hM⟩:=WJ (z:=1+x1) ⋯ hkc
  refine λpd hpd=>⟨(),p,_,(()),SqL.of ((eE hpd _) _ _ (sw _ _ hp)),rfl,(()),(),p,_,(()),SqL.of ((eE hpd _) _ _ (sw _ _ hp)),rfl,(()),dY,vG (1+x1),rfl,(by show 4<=15;decide),(),pd,(),.inl ⟨_,.inr (Tx (iH kc)),(.inl dY),rfl,eM⟩,?_⟩;have s3:Same H1 (upd (upd (upd H1 wl (.lst [.str (Tx [106,111,105,110]),.str (Tx [109,101,101,116]),.str (Tx [108,101,115,115]),.str (Tx [116,117,114,110]),.str (Tx [106,111,105,110]),.str (Tx [108,101,115,115]),.str (Tx [116,117,114,110])])) pd (.dK [])) pd (.dK (m5 [] (vG (1+x1))))):=sw.trans (kM hpd (eE hpd _))
  refine⟨(),(),(),⋯,⋯,Nc (λD i l HZ=>∃bs,Paired (Tr (λb=>H1 b=none/\b≠D) (⟨(⟨aD,aF,aG,aI,aE,aA,aH,aJ⟩:Cs),aB,eJ aQ aP aL aM aK aO⟩:Bc) (m+1) HZ) l bs/\l.length=i/\∀b∈bs,ph (m+1) b) (λD i l HZ l0 l' hD _ ⟨bs,hp,hl⟩=>⟨bs,Paired.mapP hp λ_ _ z=>z.go (λ_ z=>z) (pV hD λp hp=>hp.2) _,hl⟩) (by rw[dI];omega) (λD _=>⟨[],.nil,rfl,λ_ h=>nomatch h⟩) (λi l D H5 E' F' hi ⟨bs,hP,hl,hb⟩ hD s5 hz hE hF=>?_) (λD H5 l ⟨bs,hP,hl,hb⟩ hD s5 hz=>?_)⟩
  ·have s15:=s3.trans s5;refine⟨(),(),(()),.inl ⟨by decide,by decide⟩,(()),(),(()),(),(()),(),a,3*n+1+i,bm,ns,?_,(sX.trans s15).seq hS,?_,λt b H6 s6 hT hB=>hE _ _ s6 ⟨bs++[b],nC (Paired.mapP hP λ_ _ z=>z.same s6) (hT.go (λp hp=>⟨s15.none hp,λe=>by rw[e,hz] at hp;cases hp⟩) (iu (Same.refl _)) _),by rw[aZ,hl];rfl,λz hz=>(b9.mp hz).elim (hb z) λe=>by rw[bW.mp e];exact hB⟩⟩
   ·show [V.ref a,V.int (3*(n:Int)+1+(0+(i:Int))),V.int (((m+1:Nat):Int)-1),V.bl bm]=_;rw[show 3*(n:Int)+1+(0+(i:Int))=((3*n+1+i:Nat):Int) by omega,show ((m+1:Nat):Int)-1=(m:Int) by omega]
   ·have hi':i<3:=⋯;have e3:(n+2)*3^(m+1)=(3*n+6)*3^m:=by rw[Nat.pow_succ,Nat.mul_comm (3^m) 3,←Nat.mul_assoc];congr 1;omega
    have:(3*n+1+i+2)*3^m<=(3*n+6)*3^m:=Nat.mul_le_mul_right _ ⋯;omega
  ·have s15:=s3.trans s5;refine⟨(zL 2),λt ht=>?_⟩;have st:=eE ht (.tup [.str (Tx (iH kc)),.ref D]);have ln:l.length=M:=by rw[hl];exact bQ M
   exact q t _ _ (sX.trans (s15.trans st)) ⟨kc,t,D,l,l,bs,gK kc,rfl,dY,sX.none (s3.none hD),st _ _ hz,hM ln,Paired.mapP hP λ_ _ z=>z.go (λp hp=>sX.none hp.1) (iu st) _,rfl⟩ (pD (by rw[←Paired.length hP,ln];exact hM3) hb)
theorem atX{k0:Nat}:Df P w K mg base "_law_tree" (k0+1) ["_law_script","_law_n","_law_deep","_law_mixed"] (λ_ _ _ _=>False):=ZZ.b8.dfs Uj (λ_ _ _ _ h=>h.elim) (λ_ _ _ _ _ _ _ _ _ _ h=>h.elim)
theorem HF:∀lv:Nat,Df P w K mg base "_law_tree" (lv+21) ["_law_script","_law_n","_law_deep","_law_mixed"] (p5 K (⟨(⟨aD,aF,aG,aI,aE,aA,aH,aJ⟩:Cs),aB,eJ aQ aP aL aM aK aO⟩:Bc) lv)
 |0=>FE ZZ (k0:=0) (λm h=>absurd h.symm (Nat.succ_ne_zero m)) (atX ZZ)
 |lv+1=>by
  have:=FE ZZ (k0:=lv+1) (lv:=lv+1) (λm h=>congrArg (λz=>p5 K (⟨(⟨aD,aF,aG,aI,aE,aA,aH,aJ⟩:Cs),aB,eJ aQ aP aL aM aK aO⟩:Bc) z) (Nat.succ.inj h)) (by rw[show lv+1+20=lv+21 by omega];exact HF lv);exact this
theorem Vf:Df P w K mg base "_law_tree" 23 ["_law_script","_law_n","_law_deep","_law_mixed"] (p5 K (⟨(⟨aD,aF,aG,aI,aE,aA,aH,aJ⟩:Cs),aB,eJ aQ aP aL aM aK aO⟩:Bc) 2):=HF ZZ 2
theorem Wo{k0 n:Nat}{sp0:Sp}(hs:∀m,n=m+1->sp0=pQ (⟨(⟨aD,aF,aG,aI,aE,aA,aH,aJ⟩:Cs),aB,eJ aQ aP aL aM aK aO⟩:Bc) m)(D0:Df P w K mg base "_law_rows" k0 ["_law_tree_here"] sp0):Df P w K mg base "_law_rows" (k0+1) ["_law_tree_here"] (pQ (⟨(⟨aD,aF,aG,aI,aE,aA,aH,aJ⟩:Cs),aB,eJ aQ aP aL aM aK aO⟩:Bc) n):=by
 refine ZZ.b9.dfs Uf (λvs H Q E h=>?_) (λfz cdv Ar outer s H vs Q E hr h=>?_)
 ·obtain⟨A,v,b,rfl,_⟩:=h;rfl
 obtain⟨A,v,b,rfl,hT,hn,q⟩:=h;refine⟨_,(eC (eX (eW fU (eO xT Y0 eI) (eV [114,111,119])) (dX (eF (lV GB (eO xT Y0 eI) mr (ku eI)))) eZ) (eC (eK 1 (gC aN) Uf.nd) (eC (j9 (iL (eO xT Y0 eI)) (gN 2 Uf.nd) (dX (eK 1 (dZ Bq Y1 (j4 D0 hr (A1 Y2))) Uf.nd)) PassesOwn.never) (dX (eF Y1))))),?_⟩;extract_lets;cases n with
 |zero=>exact hT.elim
 |succ n=>
  obtain rfl:=hs n rfl;obtain⟨i,t,l,us,vs,bs,g,rfl,ht,hA,hl,hsh,hP,rfl⟩:=hT.inn;have h8:=yi hn;have h8':8^(n+1)=8^n*8:=rfl;by_cases cO:i=.O
  ·subst cO;obtain⟨r,tm,f,rfl,rfl,hR,rfl⟩:=hsh;refine⟨(),t,_,(()),SqT.of ht,rfl,rfl,(),jv ⟨(),t,_,(()),SqT.of ht,rfl,(),l,(),SqL.of hl,λD hD=>q D [r] _ (eE hD _) dY (λz hz=>?_) ?_⟩⟩
   ·rw[bW.mp hz];exact⟨tm,f,hR.go (λ_ z=>z.1) (iu (eE hD _))⟩
   ·show 1<=8^(n+1);exact Nat.pow_pos (by decide)
  obtain⟨rfl,hlen⟩:vs=us/\us.length<=8:=by
   by_cases cB:i=.B
   ·subst cB;obtain⟨rfl,rfl,_⟩:=hsh;exact⟨rfl,bK _⟩
   ·obtain⟨e,_,l8,_⟩:=pL hsh cB cO;exact⟨e,l8⟩
  refine⟨(),t,_,(()),SqT.of ht,rfl,rfl,(),gP (λz=>cO (Kk z)) ⟨(zL 0),λD hD=>?_⟩⟩;have s0:=eE hD (.lst []);refine⟨(),t,_,(()),SqT.of (s0 _ _ ht),rfl,l,rfl,⟨_,SqL.of (s0 _ _ hl)⟩,mM (K:=K) (a:=l) (xs:=vs) (λj σ H2=>∃(D:Addr) (ls:List V) (v3:Option V),σ=[some (.ref t),some (.ref D),v3]/\Same H H2/\H2 D=some (.lst ls)/\(∀r∈ls,∃tm f,RwP (λp=>A p/\H p≠none) (⟨(⟨aD,aF,aG,aI,aE,aA,aH,aJ⟩:Cs),aB,eJ aQ aP aL aM aK aO⟩:Bc) H2 r tm f)/\ls.length<=j*8^n) ⟨D,[],(),s0,dY,(λ_ h=>nomatch h),bK _⟩ (λj σ H2 _ ⟨_,_,_,_,s2,_⟩=>SqL.of (s2 _ _ hl)) ?turn ?done⟩
  case done=>
   rintro σ H2 ⟨D,ls,v3,rfl,s2,hD,hR,hls⟩;exact⟨(),q D ls H2 s2 hD (λr hr=>by obtain⟨tm,f,z⟩:=hR r hr;exact⟨tm,f,z.go (λ_ z=>z.1) (iu (Same.refl _))⟩) (bR hls (by rw[h8',Nat.mul_comm];exact Nat.mul_le_mul_left _ hlen))⟩
  case turn=>
   rintro j v σ H2 hv ⟨D,ls,v3,rfl,s2,hD,hR,hls⟩;obtain⟨b,eb,hb⟩:=KM.Paired.at hP hv;have hj:j<vs.length:=(cT.mp hv).1;have hj8:j*8^n<=8*8^n:=Nat.mul_le_mul_right _ ⋯;refine⟨(),(),_,v,b,rfl,hb.same s2,⋯,λD2 l2 H3 s3 h3 hR3 hl3=>⟨D,D2,ls,l2,rfl,rfl,SqL.of (s3 _ _ hD),SqL.of h3,(by rw[dI];omega),λD3 hD3=>⟨D3,ls++l2,(),s2.trans (s3.trans (eE hD3 _)),dY,λr hr=>?_,?_⟩⟩⟩
   ·rcases b9.mp hr with hr | hr
    ·obtain⟨tm,f,z⟩:=hR r hr;exact⟨tm,f,z.go (λ_ z=>z) (iu (s3.trans (eE hD3 _)))⟩
    ·obtain⟨tm,f,z⟩:=hR3 r hr;exact⟨tm,f,z.go (λ_ z=>z) (iu (eE hD3 _))⟩
   ·rw[aZ,Nat.succ_mul];omega
theorem GO:∀n:Nat,Df P w K mg base "_law_rows" (n+1) ["_law_tree_here"] (pQ (⟨(⟨aD,aF,aG,aI,aE,aA,aH,aJ⟩:Cs),aB,eJ aQ aP aL aM aK aO⟩:Bc) n)
 |0=>ZZ.b9.dfs Uf (λvs H Q E h=>by obtain⟨A,v,b,_,h,_⟩:=h;exact h.elim) (λ_ _ _ _ _ _ _ _ _ _ h=>by obtain⟨A,v,b,_,h,_⟩:=h;exact h.elim)
 |n+1=>Wo ZZ (n:=n+1) (λm h=>congrArg (λz=>pQ (⟨(⟨aD,aF,aG,aI,aE,aA,aH,aJ⟩:Cs),aB,eJ aQ aP aL aM aK aO⟩:Bc) z) (Nat.succ.inj h)) (GO n)
theorem KU:Df P w K mg base "_law_rows" 4 ["_law_tree_here"] (pQ (⟨(⟨aD,aF,aG,aI,aE,aA,aH,aJ⟩:Cs),aB,eJ aQ aP aL aM aK aO⟩:Bc) 3):=GO ZZ 3
theorem an7:Dx P w base ZZ.em 3 (Yw K):=by
 refine ZZ.em.dfs Ub (by trivial) ?_;rintro _ _ _ _ s H _ Q E hr⟨c,bm,rfl,q⟩;refine⟨_,(iN (eX (tW (mP (iI (gY Y1)) (og (eW AE (fX Km ZZ.f2 PyProof.Rows.boot_abs (A1 Y0)) (dZ nI eI eI))))) (dX (eF (dZ gW (dZ ig Y0 (dZ fG (dZ iW eI (dZ nI eI eI)) eI)) (dZ nI eI eI)))) eZ) (eC (eK 2 (eD (rh ZZ) hr (A3 Y0 (gC (FF [2401,4,366,3,3,1440])) eB)) Ub.nd) (eC (eK 3 (dZ gW (eO (fV (K:=K)) Y2 eI) eI) Ub.nd) (eC (eK 4 (dZ gW (eO (fV (K:=K)) (gC (aC eI (A3 eI eI (eO (fV (K:=K)) Y2 eI)))) (eO (fV (K:=K)) Y2 eI)) (eO (fV (K:=K)) Y2 eI)) Ub.nd) (eC (eK 5 (dZ fG (dZ fG (dZ gW (dZ fG (dZ iW eI Y3) (dZ jO (dZ fG Y3 eI) eI)) (dZ jO (dZ fG Y3 eI) eI)) (dZ jO (dZ fG Y3 eI) eI)) Y4) Ub.nd) (dX (eF (dZ fG (dZ iW eI Y5) (eO (fV (K:=K)) (gC (A3 eI eI (eO (fV (K:=K)) Y2 eI))) (eO (fV (K:=K)) Y2 eI)))))))))),?_⟩
 extract_lets;refine⟨λσ' H'=>σ'=[some (.int c),some (.bl bm),none,none,none,none]/\H'=H,?_,?_⟩
 ·refine⟨(),(),?_⟩;cases bm with
  |true=>exact fK (fK ⟨rfl,rfl⟩)
  |false=>exact fR ⟨(),(),(()),⟨by decide,by decide,by decide⟩,(()),(),il (λ_=>⟨(),(()),⟨by decide,by decide,by decide⟩,(()),.inl ⟨by decide,by decide⟩,(()),(()),(by rw[aKE];show (0:Int)<_;decide),(()),⟨by decide,by decide,by decide⟩,(()),q _ _ (Same.refl _)⟩) (λ_=>⟨rfl,rfl⟩)⟩
 rintro σ' H' ⟨rfl,rfl⟩;refine⟨(),(zL 6),λls hls=>⟨c,ls,true,[2401,4,366,3,3,1440],rfl,SqL.of dY,(by decide),(by decide),λds p H1 s0 hp hd=>?_⟩⟩;have s1:=(eE hls (.lst (([2401,4,366,3,3,1440]:List Int).map V.int))).trans s0;obtain⟨d0,r,rfl,_,hd⟩:=hG hd;obtain⟨d1,r,rfl,k1,hd⟩:=hG hd;obtain⟨d2,r,rfl,_,hd⟩:=hG hd;obtain⟨d3,r,rfl,_,hd⟩:=hG hd;obtain⟨d4,r,rfl,k4,hd⟩:=hG hd;obtain⟨d5,r,rfl,_,hd⟩:=hG hd
 obtain rfl:=qz hd
 replace hp:H1 p=some (.lst [.int d0,.int d1,.int d2,.int d3,.int d4,.int d5]):=hp
 obtain⟨ee,hee⟩:=sV (zs:=[0,59,365,d2]) (i:=d1) k1.1 k1.2;obtain⟨tt,htt⟩:=sV (zs:=[0,1439,d5]) (i:=d4) k4.1 k4.2;refine⟨(),p,_,(()),SqL.of (hp),rfl,(()),?_⟩;refine⟨(),p,_,(()),SqL.of (hp),rfl,(zL 4),λl1 h1=>⟨(),p,_,(()),SqL.of ((eE h1 _) _ _ hp),rfl,l1,_,(()),SqL.of dY,hee,(),p,_,(()),SqL.of ((eE h1 _) _ _ hp),rfl,(()),?_⟩⟩;refine⟨(),(()),.inl ⟨by decide,by decide⟩,(),(()),(()),⟨by decide,by decide⟩,(()),(),(()),(()),⟨by decide,by decide⟩,(()),(),(()),(()),⟨by decide,by decide⟩,(()),(),(()),?_⟩
 exact⟨(),(()),.inl ⟨by decide,by decide⟩,(),p,_,(()),SqL.of ((eE h1 _) _ _ hp),rfl,(zL 3),λl2 h2=>⟨(),p,_,(()),SqL.of ((eE h2 _) _ _ ((eE h1 _) _ _ hp)),rfl,l2,_,(()),SqL.of dY,htt,(()),q _ _ (s1.trans ((eE h1 _).trans (eE h2 _)))⟩⟩
theorem Md:Dx P w base ZZ.fr 12 (asO K aD aF aG aI aE aA aH aJ aB aQ aP aL aM aK aO aR aS):=by
 refine ZZ.fr.dfs Uc (by trivial) ?_;rintro f _ _ _ s H _ Q E hr⟨A',t,b,c,bm,rfl,hT,hTb,q⟩;refine⟨_,(eC (eK 3 (eD (rh ZZ) hr (A3 Y1 (gC (A3 eI eI eI)) Y2)) Uc.nd) (eC (eK 4 (eD (an7 ZZ) hr (A2 (dZ jO Y1 eI) Y2)) Uc.nd) (eC (eK 5 (eD (KU ZZ) hr (A1 Y0)) Uc.nd) (eC (eX (tW (iU (eW (tI hr.units) Y5 (gC aN)) (jB (eW fU (eO (fV (K:=K)) Y3 eI) eI)))) (dX (eF Y4)) eZ) (eC (eK 6 (eO (fN (K:=K)) (eD (S2 ZZ) hr (A2 (eO (fV (K:=K)) Y5 (dZ ig (eO (fV (K:=K)) Y3 eI) (fX (kX (K:=K)) ZZ.ao PySem.boot_len (A1 Y5)))) Y4)) eI) Uc.nd) (eC (eX (eW jA Y6 eN) (dX (eF Y4)) eZ) (dX (eF (dZ fG Y6 (eO (fV (K:=K)) (gC (aC eI (aC eI (aC eI (aC eI (A3 (lg k9 eI) eI eI)))))) (eO (fV (K:=K)) Y3 eI))))))))))),?_⟩
 extract_lets;refine⟨(),(zL 3),λls hls=>⟨(),c,ls,bm,[3,13,7],rfl,SqL.of dY,(by decide),(by decide),λds p H1 s0 hp hd=>?_⟩⟩;have s1:=(eE hls (.lst (([3,13,7]:List Int).map V.int))).trans s0;obtain⟨d0,r,rfl,_,hd⟩:=hG hd;obtain⟨d1,r,rfl,k1,hd⟩:=hG hd;obtain⟨d2,r,rfl,k2,hd⟩:=hG hd;obtain rfl:=qz hd
 replace hp:H1 p=some (.lst [.int d0,.int d1,.int d2]):=hp
 obtain⟨ee,hee⟩:=sV (zs:=[0,0,0,1,-1,60,1440]) (i:=d2) k2.1 k2.2;refine⟨(),(()),⟨by decide,by decide⟩,(),c / 273,bm,rfl,λmo H2 s2=>?_⟩;refine⟨(),A',t,b,rfl,hT.same (s1.trans s2),by decide,λD lr H3 s3 hD hR hl=>?_⟩;have s13:=s1.trans (s2.trans s3);have hl5:lr.length<=512:=hl;refine⟨(),(zL 0),λa' ha'=>⟨D,a',lr,rfl,rfl,SqL.of ((eE ha' _) _ _ hD),SqL.of dY,(),?_⟩⟩;have sa:=eE ha' (.lst []);have s14:=s13.trans sa
 have hp4:=sa _ _ (s3 _ _ (s2 _ _ hp));have hD4:=sa _ _ hD;have eY:Q (.int mo) _:=q mo _ (jQ s14) (pU s14 hTb);refine il (λ_=>fR ⟨(),eY⟩) (λc0=>⟨(),p,_,(()),SqL.of (hp4),rfl,rfl,(),gX (λ_=>⟨(),eY⟩) (λc1=>?_)⟩);have hlen:0<lr.length:=by
  rcases lr with _ | ⟨u,us⟩
  ·exact absurd rfl c0
  ·exact Nat.succ_pos _
 have i0:=cQ d1 (show ((lr.length:Nat):Int)≠0 by omega);have i1:=cR d1 (show (0:Int)<((lr.length:Nat):Int) by omega);obtain⟨i,ei⟩:∃i:Nat,(i:Int)=d1%((lr.length:Nat):Int):=⟨(d1%((lr.length:Nat):Int)).toNat,bZ i0⟩;have hi':i<lr.length:=⋯;obtain⟨u,hu⟩:∃u,lr[i]? =some u:=⟨_,cC hi'⟩;obtain⟨tm,f,x,m0,m1,m3,kd,kw,rfl,hRA,_⟩:=hR u (bU hu);refine⟨(),(),p,_,(()),SqL.of (hp4),rfl,(),D,(),.inl (SqL.of hD4),(()),(by show (0:Int)<((lr.length:Nat):Int);omega),D,_,(()),SqL.of hD4,(by rw[←ei];exact mH hu),(),x,mo,m0,m1,m3,kd,kw,rfl,(hRA.go (λ_ z=>z) (iu sa)).rr,pU s14 hTb,λt2 l2 H5 v5 s5 T5 h5 hv=>⟨t2,_,(()),SqT.of h5,rfl,?_⟩⟩
 have s15:=(jQ s14).trans s5;rcases hv with ⟨e,rfl⟩ | rfl
 ·refine⟨(),rfl,(),il (λc=>by cases c) (λ_=>⟨(),(),(zL 7),λl7 h7=>⟨(),p,_,(()),SqL.of (eE h7 _ _ _ (s5 _ _ (λ_ z=>by cases z) hp4)),rfl,l7,_,(()),SqL.of dY,hee,(()),q _ _ (s15.trans (jQ (eE h7 _))) (pU (eE h7 _) T5)⟩⟩)⟩
 ·exact⟨(),rfl,(),il (λ_=>⟨(),q _ _ s15 T5⟩) (λc=>absurd rfl c)⟩
theorem Tj{k0 n:Nat}{sp0:Sp}(hs:∀m,n=m+1->sp0=nv (⟨(⟨aD,aF,aG,aI,aE,aA,aH,aJ⟩:Cs),aB,eJ aQ aP aL aM aK aO⟩:Bc) m)(D0:Df P w K mg base "_law_holds" (k0+12) ["_law_tree_here","_law_moment_here"] sp0):Df P w K mg base "_law_holds" (k0+13) ["_law_tree_here","_law_moment_here"] (nv (⟨(⟨aD,aF,aG,aI,aE,aA,aH,aJ⟩:Cs),aB,eJ aQ aP aL aM aK aO⟩:Bc) n):=by
 refine ZZ.b3.dfs U7 (λvs H Q E h=>?_) (λfz cdv Ar outer s H vs Q E hr h=>?_)
 ·obtain⟨A,v,b,mo,y,m,k,rfl,_⟩:=h;rfl
 obtain⟨A',v,b,mo,y,m,k,rfl,hT,ok,e,q⟩:=h;refine⟨_,(eC (pX Y0 (vc (jE (gN 2 U7.nd) (jE (gN 3 U7.nd) mK)))) (eC (eX (eW fU Y2 (eV [114,111,119])) (dX (eF (jm (hk:=by omega) ZZ.ad.cl (GH ZZ) hr (eO xL Y3 eI) (A1 Y1)))) eZ) (eC (nG 4 ["_law_moment_here"] [1] (iL Y3) (λ_ _ _ _ _ _=>iq) (λ_ _ _ _ _ _=>(j4 D0 hr (A2 Y0 Y1))) U7.nd) (eC (eX (tW (iU (eW fU Y2 (eV [110,111,110,101])) (jB (eW fU Y2 (eV [106,111,105,110]))))) (dX (eF (iD sO eB Y4))) eZ) (eC (eX (eW fU Y2 (eV [109,101,101,116])) (dX (eF (iD OP eB Y4))) eZ) (eC (eX (eW fU Y2 (eV [108,101,115,115])) (dX (eF (kE (eO xL Y4 eI) (jW (mL (eO xL Y4 eI)))))) eZ) (dX (eF (mL (eO xL Y4 eI)))))))))),?_⟩
 extract_lets;cases n with
 |zero=>exact hT.elim
 |succ n=>
  obtain rfl:=hs n rfl;obtain⟨i,t,l,us,vs,bs,g,rfl,ht,hA,hl,hsh,hP,rfl⟩:=hT;refine⟨(),t,(),SqT.of ht,rfl,_,(),(()),?_⟩;by_cases cO:i=.O
  ·subst cO;obtain⟨r,tm,f,rfl,rfl,⟨xr,m0,m1,m3,kd,kw,rfl,⟨dr,dv,wv,hr',hn,hb,hd,hw,_⟩,rfl,rfl⟩,rfl⟩:=hsh;cases hP;refine⟨(),rfl,(),jv ⟨(),l,_,(()),SqL.of hl,rfl,xr,dr,(),hr',GX ..,(),xr,dr,m0,m1,m3,hV m1 m0,mo,dv,wv,kd,kw,rfl,hr',hn,hd,hw,λy' m' k' H' ok' e' s'=>?_⟩⟩;obtain⟨rfl,rfl,rfl⟩:=ux ok ok' (e.trans e'.symm);rw[Hx hn hb ok e];exact q H' s'
  obtain⟨rfl,hlen,hw⟩:vs=us/\us.length<=8/\((i=.B/\g=λ_=>zF)∨i=.J/\g=lG∨i=.M/\g=k6∨(i=.L/\g=mq/\us.length=2)∨(i=.T/\g=j8/\us.length=1)):=by
   by_cases cB:i=.B
   ·subst cB;obtain⟨rfl,rfl,z⟩:=hsh;exact⟨rfl,bK _,.inl ⟨rfl,z⟩⟩
   ·obtain⟨e,_,l8,_,_,z⟩:=pL hsh cB cO;exact⟨e,l8,.inr z⟩
  refine⟨(),rfl,(),gP (λz=>cO (Kk z)) ⟨(),l,rfl,⟨_,SqL.of hl⟩,kA (xs:=vs) (λj l=>l=((bs.take j).map λb=>gS b.2.2 mo y m k).map V.bl) (by rw[dI];omega) rfl (SqL.of hl) (λj v l D H2 E' F' hv hR hD s2 hz hE hF=>?_) (λD H2 l hR hD s2 hz=>?_)⟩⟩
  ·subst hR;obtain⟨b,eb,hb⟩:=KM.Paired.at hP hv;exact⟨(),(),A',v,b,mo,y,m,k,rfl,hb.same s2,ok,e,λH5 s5=>hE _ _ s5 (by rw[bH,eb,a8,a8];rfl)⟩
  subst hR;rw[Paired.length hP,bL] at hz;have ln:=Paired.length hP;have okf:∀f∈bs.map (·.2.2),gG f:=λf hf=>by
   obtain⟨b,hb,rfl⟩:=bI.mp hf;obtain⟨u,_,hu⟩:=mC hP b hb;exact Tr.ok n hu
  have z:=q H2 s2;rcases hw with ⟨rfl,rfl⟩ | ⟨rfl,rfl⟩ | ⟨rfl,rfl⟩ | ⟨rfl,rfl,l2⟩ | ⟨rfl,rfl,l2⟩
  ·obtain⟨_,rfl,_⟩:=hsh;cases hP;rw[show gS (gM (λ_=>zF) []).2.2 mo y m k=false from Im] at z;exact⟨(),rfl,(),jv (fR ⟨(),D,(),.inl (SqL.of hz),rfl,rfl,z⟩)⟩
  ·rw[show gS (gM lG bs).2.2 mo y m k=_ from EF okf,cN] at z;refine⟨(),rfl,(),gP (by decide) ⟨(),rfl,(),jv ⟨(),D,(),.inl (SqL.of hz),rfl,Jz _,?_⟩⟩⟩;show Q (.bl (j7 (.bl true) _)) H2;rw[MY,cN];exact z
  ·rw[show gS (gM k6 bs).2.2 mo y m k=_ from JS okf,List.all_map] at z;refine⟨(),rfl,(),gP (by decide) ⟨(),rfl,(),gP (by decide) ⟨(),rfl,(),jv ⟨(),D,(),.inl (SqL.of hz),rfl,Jz _,?_⟩⟩⟩⟩;show Q (.bl (!j7 (.bl false) _)) H2;rw[NR,List.all_map];exact z
  ·obtain⟨u1,u2,rfl⟩:=Jb l2;obtain⟨b1,b2,rfl,h1,h2⟩:=Fk hP
   replace hz:H2 D=some (.lst [.bl (gS b1.2.2 mo y m k),.bl (gS b2.2.2 mo y m k)]):=hz
   rw[show gS (gM mq [b1,b2]).2.2 mo y m k=_ from EI (Tr.ok n h1) (Tr.ok n h2)] at z;refine⟨(),rfl,(),gP (by decide) ⟨(),rfl,(),gP (by decide) ⟨(),rfl,(),gP (by decide) ⟨(),rfl,(),jv ⟨(),D,_,(()),SqL.of hz,rfl,(),?_⟩⟩⟩⟩⟩;cases c1:gS b1.2.2 mo y m k with
   |false=>
    rw[c1] at z;exact fK z
   |true=>
    rw[c1] at z;exact fR ⟨(),D,_,(()),SqL.of hz,rfl,(),z⟩
  ·obtain⟨u1,rfl⟩:=CO l2;obtain⟨b1,rfl,h1⟩:=wM hP
   replace hz:H2 D=some (.lst [.bl (gS b1.2.2 mo y m k)]):=hz
   rw[show gS (gM j8 [b1]).2.2 mo y m k=_ from zb (Tr.ok n h1)] at z;exact⟨(),rfl,(),gP (by decide) ⟨(),rfl,(),gP (by decide) ⟨(),rfl,(),gP (by decide) ⟨(),rfl,(),gP (by decide) ⟨(),D,_,(()),SqL.of hz,rfl,(),z⟩⟩⟩⟩⟩
theorem FZ:∀n:Nat,Df P w K mg base "_law_holds" (n+13) ["_law_tree_here","_law_moment_here"] (nv (⟨(⟨aD,aF,aG,aI,aE,aA,aH,aJ⟩:Cs),aB,eJ aQ aP aL aM aK aO⟩:Bc) n)
 |0=>ZZ.b3.dfs U7 (λvs H Q E h=>by obtain⟨A,v,b,mo,y,m,k,_,h,_⟩:=h;exact h.elim) (λ_ _ _ _ _ _ _ _ _ _ h=>by obtain⟨A,v,b,mo,y,m,k,_,h,_⟩:=h;exact h.elim)
 |n+1=>by
  have:=Tj ZZ (k0:=n+1) (n:=n+1) (λm h=>congrArg (λz=>nv (⟨(⟨aD,aF,aG,aI,aE,aA,aH,aJ⟩:Cs),aB,eJ aQ aP aL aM aK aO⟩:Bc) z) (Nat.succ.inj h)) (by rw[show n+1+12=n+13 by omega];exact FZ n);exact this
theorem zM:Df P w K mg base "_law_holds" 16 ["_law_tree_here","_law_moment_here"] (nv (⟨(⟨aD,aF,aG,aI,aE,aA,aH,aJ⟩:Cs),aB,eJ aQ aP aL aM aK aO⟩:Bc) 3):=FZ ZZ 3
theorem XN:Dx P w base ZZ.e9 1 (Nr K aD aF aG aI aE aA aH aJ aB aQ aP aL aM aK aO):=by
 refine ZZ.e9.dfs Uh (by trivial) ?_;rintro _ _ _ _ s H _ Q E hr⟨x,dx,i,fs,rfl,hx,q⟩;refine⟨_,(eC (eK 1 (gC (aC (fX me ZZ.aa PyProof.Rows.boot_isinstance (A2 Y0 (fE (v:=.ref aP) ZZ.aq.at_ rfl))) (A3 (fX me ZZ.aa PyProof.Rows.boot_isinstance (A2 Y0 (fE (v:=.ref aL) ZZ.ab.at_ rfl))) (fX me ZZ.aa PyProof.Rows.boot_isinstance (A2 Y0 (fE (v:=.ref aM) ZZ.ah.at_ rfl))) (fX me ZZ.aa PyProof.Rows.boot_isinstance (A2 Y0 (fE (v:=.ref aK) ZZ.ae.at_ rfl)))))) Uh.nd) (dX (eF (dZ Bq Y1 (gC (A1 (fX me ZZ.aa PyProof.Rows.boot_isinstance (A2 Y0 (fE (v:=.ref aO) ZZ.ac.at_ rfl))))))))),?_⟩
 extract_lets;have kt:KtB K (⟨(⟨aD,aF,aG,aI,aE,aA,aH,aJ⟩:Cs),aB,eJ aQ aP aL aM aK aO⟩:Bc):=λi=>by cases i with
  |B=>exact⟨ZZ.cb,ZZ.ak.cl,λj=>by cases j with
   |B=>exact ZZ.cd
   |O=>exact ZZ.fu
   |J=>exact ZZ.dm
   |M=>exact ZZ.fa
   |L=>exact ZZ.en
   |T=>exact ZZ.dn⟩
  |O=>exact⟨ZZ.c8,ZZ.aq.cl,λj=>by cases j with
   |B=>exact ZZ.c9
   |O=>exact ZZ.gx
   |J=>exact ZZ.eo
   |M=>exact ZZ.gj
   |L=>exact ZZ.fv
   |T=>exact ZZ.ep⟩
  |J=>exact⟨ZZ.bl,ZZ.ab.cl,λj=>by cases j with
   |B=>exact ZZ.bn
   |O=>exact ZZ.eq
   |J=>exact ZZ.c2
   |M=>exact ZZ.d5
   |L=>exact ZZ.dp
   |T=>exact ZZ.c3⟩
  |M=>exact⟨ZZ.cr,ZZ.ah.cl,λj=>by cases j with
   |B=>exact ZZ.cs
   |O=>exact ZZ.gk
   |J=>exact ZZ.d6
   |M=>exact ZZ.fw
   |L=>exact ZZ.fb
   |T=>exact ZZ.d7⟩
  |L=>exact⟨ZZ.cc,ZZ.ae.cl,λj=>by cases j with
   |B=>exact ZZ.ce
   |O=>exact ZZ.fx
   |J=>exact ZZ.dq
   |M=>exact ZZ.fc
   |L=>exact ZZ.er
   |T=>exact ZZ.dr⟩
  |T=>exact⟨ZZ.bm,ZZ.ac.cl,λj=>by cases j with
   |B=>exact ZZ.bo
   |O=>exact ZZ.es
   |J=>exact ZZ.c4
   |M=>exact ZZ.d8
   |L=>exact ZZ.ds
   |T=>exact ZZ.c5⟩
 obtain⟨hi,hc,hk⟩:=kt i;have ty:=hi.ty hc hx;refine⟨(),_,_,aP,(),ty,hk .O,(),_,_,aL,(),ty,hk .J,(),_,_,aM,(),ty,hk .M,(),_,_,aK,(),ty,hk .L,(zL 4),λl1 h1=>?_⟩;have s1:=eE h1 (.lst ([kO i .O,kO i .J,kO i .M,kO i .L].map V.bl));refine⟨(),(),_,_,aO,(),FI s1 ty,hk .T,(zL 1),λl2 h2=>⟨l1,l2,(()),SqL.of (eE h2 _ _ _ dY),SqL.of dY,(by show 4+1<=sizeLine;decide),λD hD=>q D _ (s1.trans ((eE h2 _).trans (eE hD _))) dY⟩⟩
theorem Vz{k0 n:Nat}{sp0:Sp}(hs:∀m,n=m+1->sp0=oK (⟨(⟨aD,aF,aG,aI,aE,aA,aH,aJ⟩:Cs),aB,eJ aQ aP aL aM aK aO⟩:Bc) m)(D0:Df P w K mg base "_law_made" (k0+20) ["_law_tree_here","_law_made_here"] sp0):Df P w K mg base "_law_made" (k0+21) ["_law_tree_here","_law_made_here"] (oK (⟨(⟨aD,aF,aG,aI,aE,aA,aH,aJ⟩:Cs),aB,eJ aQ aP aL aM aK aO⟩:Bc) n):=by
 refine ZZ.ca.dfs Ua (λvs H Q E h=>?_) (λfz cdv Ar outer s H vs Q E hr h=>?_)
 ·obtain⟨A,v,M,ms,b,rfl,_⟩:=h;rfl
 obtain⟨A',v,M,ms,b,rfl,hT,hn,hb,hM,na,hml,q⟩:=h;refine⟨_,(eC (pX Y0 (vc (jE (gN 2 Ua.nd) (jE (gN 3 Ua.nd) mK)))) (eC (eK 4 (gC aN) Ua.nd) (iN (eX (eW fU Y2 (eV [110,111,110,101])) (dX (eK 5 (Eg ZZ.ak ZZ.g5) Ua.nd)) (dX (eX (eW fU Y2 (eV [114,111,119])) (dX (eK 5 (j2 (hk:=by omega) ZZ.aq (ZP ZZ) hr (A1 (eO xL Y3 eI))) Ua.nd)) (iN (nG 4 ["_law_made_here"] [1] (iL Y3) (λ_ _ _ _ _ _=>iq) (λ_ _ _ _ _ _=>(j4 D0 hr (A2 Y0 Y1))) Ua.nd) (dX (eX (eW fU Y2 (eV [106,111,105,110])) (dX (eK 5 (j2 (hk:=by omega) ZZ.ab (Z0 ZZ) hr (A1 Y4)) Ua.nd)) (dX (eX (eW fU Y2 (eV [109,101,101,116])) (dX (eK 5 (j2 (hk:=by omega) ZZ.ah (P4 ZZ) hr (A1 Y4)) Ua.nd)) (dX (eX (eW fU Y2 (eV [108,101,115,115])) (dX (eK 5 (j2 (hk:=by omega) ZZ.ae (Vg ZZ) hr (A2 (eO xL Y4 eI) (eO xL Y4 eI))) Ua.nd)) (dX (eK 5 (j2 (hk:=by omega) ZZ.ac (Hm ZZ) hr (A1 (eO xL Y4 eI))) Ua.nd)))))))))))) (eC (lO (n6 Y1 (ij (A3 Y0 Y5 Y4)))) (dX (eF Y5)))))),?_⟩
 extract_lets;cases n with
 |zero=>exact hT.elim
 |succ n=>
  obtain rfl:=hs n rfl;obtain⟨i,t,l,us,vs,bs,g,rfl,ht,hA,hl,hsh,hP,rfl⟩:=hT;have pos:=F3 hP;obtain⟨_,lt⟩:=xN (g:=g) pos;have hMn:H M≠none:=by rw[hM];exact λz=>nomatch z
  refine⟨(),t,(),SqT.of ht,rfl,_,(),(()),?_⟩;refine⟨(zL 0),λDi hDi=>?_⟩;have s0:=eE hDi (.lst []);have kp:∀{H':Hp},But M H H'->Kp A' H H':=λs=>s.kp hM na;have nd:∀{x Dn dx:Addr} {ws:List V} {fs:Fl} {H':Hp},But M H H'->H' x=some (.ins ((⟨(⟨aD,aF,aG,aI,aE,aA,aH,aJ⟩:Cs),aB,eJ aQ aP aL aM aK aO⟩:Bc).k i) dx fs)->Sh (λp=>A' p∨H p=none) (⟨(⟨aD,aF,aG,aI,aE,aA,aH,aJ⟩:Cs),aB,eJ aQ aP aL aM aK aO⟩:Bc) H' i fs ws g->Paired (Bk (λp=>A' p∨H p=none) (⟨(⟨aD,aF,aG,aI,aE,aA,aH,aJ⟩:Cs),aB,eJ aQ aP aL aM aK aO⟩:Bc) n H') ws bs->ws.length<=8->H Dn=none->H' Dn=some (.lst ws)->(i=.O->∃r tm,fs=([("row",r)]:Fl)/\us=[r,.int tm])->NdOk (λp=>A' p∨H p=none) (⟨(⟨aD,aF,aG,aI,aE,aA,aH,aJ⟩:Cs),aB,eJ aQ aP aL aM aK aO⟩:Bc) H' t x Dn/\BkC (λp=>A' p∨H p=none) (⟨(⟨aD,aF,aG,aI,aE,aA,aH,aJ⟩:Cs),aB,eJ aQ aP aL aM aK aO⟩:Bc) (Bk (λp=>A' p∨H p=none) (⟨(⟨aD,aF,aG,aI,aE,aA,aH,aJ⟩:Cs),aB,eJ aQ aP aL aM aK aO⟩:Bc) n H') H' i x (gM g bs):=λ{x Dn dx ws fs H'} sB hx hS hB h8 hD hD' hO=>⟨⟨n,i,l,dx,us,vs,ws,fs,bs,g,⋯,sB _ _ (λe=>by rw[e,hM] at ht;cases ht) ht,.inl hA,sB _ _ (na _ hA) hl,hsh.go (λ_ z=>.inl z) (kp sB),Paired.mapP hP λ_ _ z=>z.go (λ_ z=>.inl z) (kp sB) _,hx,hS,hB,h8,.inr hD,hD',hO⟩,⟨dx,fs,ws,bs,g,hx,hS,hB,h8,rfl⟩⟩
  refine⟨λσ' H'=>∃(x Dn:Addr) (ms1:List V),σ'=[some (.ref t),some (.ref M),some (.str (Tx (iH i))),some (.ref l),some (.ref Dn),some (.ref x)]/\But M H H'/\H' M=some (.lst (ms++ms1))/\(NdOk (λp=>A' p∨H p=none) (⟨(⟨aD,aF,aG,aI,aE,aA,aH,aJ⟩:Cs),aB,eJ aQ aP aL aM aK aO⟩:Bc) H' t x Dn/\BkC (λp=>A' p∨H p=none) (⟨(⟨aD,aF,aG,aI,aE,aA,aH,aJ⟩:Cs),aB,eJ aQ aP aL aM aK aO⟩:Bc) (Bk (λp=>A' p∨H p=none) (⟨(⟨aD,aF,aG,aI,aE,aA,aH,aJ⟩:Cs),aB,eJ aQ aP aL aM aK aO⟩:Bc) n H') H' i x (gM g bs))/\(∀e∈ms1,MdOk (λp=>A' p∨H p=none) (⟨(⟨aD,aF,aG,aI,aE,aA,aH,aJ⟩:Cs),aB,eJ aQ aP aL aM aK aO⟩:Bc) H' e)/\(ms1.length:Int)+1=(gM g bs).1,?_,?_⟩
  ·by_cases cB:i=.B
   ·subst cB;obtain⟨rfl,rfl,rfl⟩:=hsh;cases hP;refine⟨(),rfl,(),jv λx dx nx nd' _=>?_⟩;have sx:=s0.trans (ky (a:=.own x) (b:=.ins aQ dx []) nx nd');exact⟨x,Di,[],rfl,.of sx,by rw[cF];exact sx _ _ hM,nd (.of sx) dY ⟨rfl,rfl,rfl⟩ .nil (bK _) hDi (ky nx nd' _ _ dY) (λz=>by cases z),(λ_ h=>nomatch h),rfl⟩
   by_cases cO:i=.O
   ·subst cO;obtain⟨r,tm,f,rfl,rfl,hR,rfl⟩:=hsh;cases hP;obtain⟨xr,_,_,_,_,_,rfl,⟨dr,_,_,hxr,_⟩,_⟩:=id hR;refine⟨(),rfl,(),gP (by decide) ⟨(),rfl,(),jv ⟨(),l,_,(()),SqL.of (s0 _ _ hl),rfl,λx dx nx nd' _=>?_⟩⟩⟩;have sx:=ky (a:=.own x) (b:=.ins aP dx []) nx nd';have sy:=s0.trans (kM (o:=.ins aP dx [("row",.ref xr)]) nx sx);exact⟨x,dx,xr,dr,(),dY,sx _ _ (s0 _ _ hxr),rfl,x,Di,[],rfl,.of sy,by rw[cF];exact sy _ _ hM,nd (.of sy) dY ⟨.ref xr,tm,f,rfl,rfl,hR.go (λ_ z=>.inl z) (iu sy),rfl⟩ .nil (bK _) hDi (kM (o:=.ins aP dx [("row",.ref xr)]) nx sx _ _ dY) (λ_=>⟨.ref xr,tm,rfl,rfl⟩),(λ_ h=>nomatch h),rfl⟩
   obtain⟨rfl,l1,l8,n1,n2,hw⟩:=pL hsh cB cO;have ln0:=Paired.length hP;have hP1:Paired (Tr (λp=>A' p/\H p≠none) (⟨(⟨aD,aF,aG,aI,aE,aA,aH,aJ⟩:Cs),aB,eJ aQ aP aL aM aK aO⟩:Bc) n H) vs bs:=Paired.mapP hP λ_ _ z=>Tr.inn n z;refine⟨(),rfl,(),gP n1 ⟨(),rfl,(),gP n2 ⟨λσ' H'=>∃(Dn:Addr) (ws ms1:List V),σ'=[some (.ref t),some (.ref M),some (.str (Tx (iH i))),some (.ref l),some (.ref Dn),none]/\But M H H'/\H' M=some (.lst (ms++ms1))/\H Dn=none/\H' Dn=some (.lst ws)/\Paired (Bk (λp=>A' p∨H p=none) (⟨(⟨aD,aF,aG,aI,aE,aA,aH,aJ⟩:Cs),aB,eJ aQ aP aL aM aK aO⟩:Bc) n H') ws bs/\(∀e∈ms1,MdOk (λp=>A' p∨H p=none) (⟨(⟨aD,aF,aG,aI,aE,aA,aH,aJ⟩:Cs),aB,eJ aQ aP aL aM aK aO⟩:Bc) H' e)/\(ms1.length:Int)=(bs.map (·.1)).sum,?_,?_⟩⟩⟩
   ·refine⟨(),l,rfl,⟨_,SqL.of (s0 _ _ hl)⟩,avK (M:=M) (xs:=vs) (λD j l' HZ=>∃ms1,HZ M=some (.lst (ms++ms1))/\Paired (Bk (λp=>((A' p/\H p≠none)∨H p=none)/\p≠D) (⟨(⟨aD,aF,aG,aI,aE,aA,aH,aJ⟩:Cs),aB,eJ aQ aP aL aM aK aO⟩:Bc) n HZ) l' (bs.take j)/\(∀e∈ms1,MdOk (λp=>((A' p/\H p≠none)∨H p=none)/\p≠D) (⟨(⟨aD,aF,aG,aI,aE,aA,aH,aJ⟩:Cs),aB,eJ aQ aP aL aM aK aO⟩:Bc) HZ e)/\(ms1.length:Int)=((bs.take j).map (·.1)).sum) (by rw[s0 _ _ hM];exact λz=>nomatch z) (λD j l' HZ l0 l'' hD hN ⟨ms1,g1,g2,g3,g4⟩=>⟨ms1,by rw[eQ (λe=>by rw[←e,s0 _ _ hM] at hN;cases hN)];exact g1,Paired.mapP g2 λ_ _ z=>z.go (λ_ z=>z) (pV hD λp hp=>hp.2) _,λe he=>(g3 e he).go (λ_ z=>z) (pV hD λp hp=>hp.2),g4⟩) (by rw[dI];omega) (λD hD=>⟨[],by rw[cF];exact eE hD _ _ _ (s0 _ _ hM),.nil,(λ_ h=>nomatch h),rfl⟩) (λH2 sB=>SqL.of (sB _ _ (na _ hA) (s0 _ _ hl))) (λj v l' D H2 E' F' hv ⟨ms1,g1,g2,g3,g4⟩ hD sB hz hE hF=>?_) (λD H2 l' ⟨ms1,g1,g2,g3,g4⟩ hD sB hz=>?_)⟩
    ·obtain⟨b,eb,hb'⟩:=KM.Paired.at hP1 hv;have sB0:But M H H2:=(But.of s0).trans sB;have bd:=lt b (bU eb);have sm:((bs.take j).map (·.1)).sum+(b.1+0)<=(bs.map (·.1)).sum:=by
      have z:=WD pos (j+1);rw[bH,eb,a8,c8] at z;exact z
     have sm2:(gM g bs).1=1+(bs.map (·.1)).sum:=rfl;refine⟨(),(),_,v,M,ms++ms1,b,rfl,hb'.go (λ_ z=>z) (sB0.kp hM λp hp=>na p hp.1) _,⋯,⋯,g1,λp hp=>na p hp.1,(by rw[aZ];omega),λu ms' H5 s5 h5 hB hm' hl'=>hE _ _ s5 ⟨ms1++ms',by rw[←List.append_assoc];exact h5,?_,λe he=>?_,?_⟩⟩
     ·have cv:∀p,(A' p/\H p≠none)∨H2 p=none->((A' p/\H p≠none)∨H p=none)/\p≠D:=λp hp=>hp.elim (λz=>⟨.inl z,λe=>z.2 (by rw[e];exact s0.none hD)⟩) λz=>⟨.inr (sB0.none (by rw[g1];exact λz=>nomatch z) z),λe=>by rw[e,hz] at z;cases z⟩;have k25:Kp (λp=>((A' p/\H p≠none)∨H p=none)/\p≠D) H2 H5:=s5.kp g1 λp hp e=>hp.1.elim (λz=>na p z.1 e) λz=>hMn (by rw[←e];exact z);rw[bH,eb];exact nC (Paired.mapP g2 λ_ _ z=>z.go (λ_ z=>z) k25 _) (hB.go cv (iu (Same.refl _)) _)
     ·have cv:∀p,(A' p/\H p≠none)∨H2 p=none->((A' p/\H p≠none)∨H p=none)/\p≠D:=λp hp=>hp.elim (λz=>⟨.inl z,λe=>z.2 (by rw[e];exact s0.none hD)⟩) λz=>⟨.inr (sB0.none (by rw[g1];exact λz=>nomatch z) z),λe=>by rw[e,hz] at z;cases z⟩;have k25:Kp (λp=>((A' p/\H p≠none)∨H p=none)/\p≠D) H2 H5:=s5.kp g1 λp hp e=>hp.1.elim (λz=>na p z.1 e) λz=>hMn (by rw[←e];exact z);rcases b9.mp he with he | he
      ·exact (g3 e he).go (λ_ z=>z) k25
      ·exact (hm' e he).go cv (iu (Same.refl _))
     ·rw[aZ,bH,eb,a8,c8];show ((ms1.length+ms'.length:Nat):Int)=_+(b.1+0);omega
    ·rw[ln0,bL] at g2 g4;exact⟨D,l',ms1,rfl,(But.of s0).trans sB,g1,s0.none hD,hz,Paired.mapP g2 λ_ _ z=>z.go (λp hp=>hp.1.elim (λz=>.inl z.1) .inr) (iu (Same.refl _)) _,λe he=>(g3 e he).go (λp hp=>hp.1.elim (λz=>.inl z.1) .inr) (iu (Same.refl _)),g4⟩
   rintro σ' H2 ⟨Dn,ws,ms1,rfl,sB,g1,hDn,hz,g2,g3,g4⟩;have lw:ws.length=vs.length:=by rw[Paired.length g2,ln0]
   have so:∀{us'},us'=ws->Some4 (λp=>A' p∨H p=none) (⟨(⟨aD,aF,aG,aI,aE,aA,aH,aJ⟩:Cs),aB,eJ aQ aP aL aM aK aO⟩:Bc) H2 us' bs:=λe=>by rw[e];exact Some4.of g2 ⋯ ⋯ ⋯ hb
   have en:(ms1.length:Int)+1=(gM g bs).1:=by show _=1+(bs.map (·.1)).sum;omega
   have eY:∀{x dx:Addr} {fs:Fl} {H':Hp},Same H2 H'->H' x=some (.ins ((⟨(⟨aD,aF,aG,aI,aE,aA,aH,aJ⟩:Cs),aB,eJ aQ aP aL aM aK aO⟩:Bc).k i) dx fs)->Sh (λp=>A' p∨H p=none) (⟨(⟨aD,aF,aG,aI,aE,aA,aH,aJ⟩:Cs),aB,eJ aQ aP aL aM aK aO⟩:Bc) H' i fs ws g->∃(x' Dn':Addr) (ms1':List V),[some (V.ref t),some (.ref M),some (.str (Tx (iH i))),some (.ref l),some (.ref Dn),some (.ref x)]=[some (.ref t),some (.ref M),some (.str (Tx (iH i))),some (.ref l),some (.ref Dn'),some (.ref x')]/\But M H H'/\H' M=some (.lst (ms++ms1'))/\(NdOk (λp=>A' p∨H p=none) (⟨(⟨aD,aF,aG,aI,aE,aA,aH,aJ⟩:Cs),aB,eJ aQ aP aL aM aK aO⟩:Bc) H' t x' Dn'/\BkC (λp=>A' p∨H p=none) (⟨(⟨aD,aF,aG,aI,aE,aA,aH,aJ⟩:Cs),aB,eJ aQ aP aL aM aK aO⟩:Bc) (Bk (λp=>A' p∨H p=none) (⟨(⟨aD,aF,aG,aI,aE,aA,aH,aJ⟩:Cs),aB,eJ aQ aP aL aM aK aO⟩:Bc) n H') H' i x' (gM g bs))/\(∀e∈ms1',MdOk (λp=>A' p∨H p=none) (⟨(⟨aD,aF,aG,aI,aE,aA,aH,aJ⟩:Cs),aB,eJ aQ aP aL aM aK aO⟩:Bc) H' e)/\(ms1'.length:Int)+1=(gM g bs).1:=λ{x dx fs H'} s hx hS=>⟨x,Dn,ms1,rfl,sB.trans (.of s),s _ _ g1,nd (sB.trans (.of s)) hx hS (Paired.mapP g2 λ_ _ z=>z.same s) ⋯ hDn (s _ _ hz) (λz=>absurd z cO),λe he=>(g3 e he).go (λ_ z=>z) (iu s),en⟩
   rcases hw with ⟨rfl,rfl⟩ | ⟨rfl,rfl⟩ | ⟨rfl,rfl,l2⟩ | ⟨rfl,rfl,l2⟩
   ·refine⟨(),rfl,(),jv ⟨(),λx dx nx nd' _=>?_⟩⟩;have sx:=ky (a:=.own x) (b:=.ins aL dx []) nx nd';exact⟨x,dx,Dn,(λp=>A' p∨H p=none),ws,bs,rfl,dY,SqL.of (sx _ _ hz),(so rfl).same sx,λt' H' hx ht' hs=>⟨rfl,eY (ox nx nd' hs) hx ⟨t',rfl,ht',⋯,rfl⟩⟩⟩
   ·refine⟨(),rfl,(),gP (by decide) ⟨(),rfl,(),jv ⟨(),λx dx nx nd' _=>?_⟩⟩⟩;have sx:=ky (a:=.own x) (b:=.ins aM dx []) nx nd';exact⟨x,dx,Dn,(λp=>A' p∨H p=none),ws,bs,rfl,dY,SqL.of (sx _ _ hz),(so rfl).same sx,λt' H' hx ht' hs=>⟨rfl,eY (ox nx nd' hs) hx ⟨t',rfl,ht',⋯,rfl⟩⟩⟩
   ·obtain⟨u1,u2,rfl⟩:=Jb (lw.trans l2);refine⟨(),rfl,(),gP (by decide) ⟨(),rfl,(),gP (by decide) ⟨(),rfl,(),jv ⟨(),Dn,_,(()),SqL.of hz,rfl,(),Dn,_,(()),SqL.of hz,rfl,λx dx nx nd' _=>?_⟩⟩⟩⟩;have sx:=ky (a:=.own x) (b:=.ins aK dx []) nx nd';exact⟨x,dx,(λp=>A' p∨H p=none),u1,u2,bs,rfl,dY,(so rfl).same sx,λH' hx hs=>⟨rfl,eY (ox nx nd' hs) hx ⟨u1,u2,rfl,rfl,rfl⟩⟩⟩
   ·obtain⟨u1,rfl⟩:=CO (lw.trans l2);refine⟨(),rfl,(),gP (by decide) ⟨(),rfl,(),gP (by decide) ⟨(),rfl,(),gP (by decide) ⟨(),Dn,_,(()),SqL.of hz,rfl,λx dx nx nd' _=>?_⟩⟩⟩⟩;have sx:=ky (a:=.own x) (b:=.ins aO dx []) nx nd';exact⟨x,dx,(λp=>A' p∨H p=none),u1,bs,rfl,dY,(so rfl).same sx,λH' hx hs=>⟨rfl,eY (ox nx nd' hs) hx ⟨u1,rfl,rfl,rfl⟩⟩⟩
  rintro σ' H2 ⟨x,Dn,ms1,rfl,sB,g1,⟨hN,hC⟩,g3,g4⟩;have hb1:=hb.1;refine⟨(),.inl ⟨rfl,_,SqL.of g1⟩,(),(),(),(zL 3),λq1 hq1=>⟨M,(()),eE hq1 _ _ _ g1,(by rw[aZ,dI];omega),(),?_⟩⟩;have sq:=eE hq1 (.tup [.ref t,.ref x,.ref Dn]);have naX:∀p,A' p∨H p=none->p≠M:=λp hp e=>hp.elim (λz=>na p z e) λz=>hMn (by rw[←e];exact z);have k2:∀{l':List V},Kp (λp=>A' p∨H p=none) H2 (upd (upd H2 q1 (.tup [.ref t,.ref x,.ref Dn])) M (.lst l')):=λ{l'} b o hb n1 z=>pV (sq _ _ g1) naX b o (sq _ _ hb) n1 z
  refine q (.ref x) (ms1++[.ref q1]) _ (λb o nb hb=>by rw[eQ nb];exact sq _ _ (sB _ _ nb hb)) (by rw[dY,List.append_assoc]) ⟨i,x,rfl,hC.go (λ_ z=>z) k2 λ_ _ z=>z.go (λ_ z=>z) k2 _⟩ (λe he=>?_) (by rw[aZ];show ((ms1.length+1:Nat):Int)=_;omega);rcases b9.mp he with he | he
  ·exact (g3 e he).go (λ_ z=>z) k2
  ·rw[bW.mp he];exact MdOk.go (H:=upd H2 q1 (.tup [.ref t,.ref x,.ref Dn])) (λ_ z=>z) (pV (sq _ _ g1) naX) (SD hq1 hN)
theorem EC:∀n:Nat,Df P w K mg base "_law_made" (n+21) ["_law_tree_here","_law_made_here"] (oK (⟨(⟨aD,aF,aG,aI,aE,aA,aH,aJ⟩:Cs),aB,eJ aQ aP aL aM aK aO⟩:Bc) n)
 |0=>ZZ.ca.dfs Ua (λvs H Q E h=>by obtain⟨A,v,M,ms,b,_,h,_⟩:=h;exact h.elim) (λ_ _ _ _ _ _ _ _ _ _ h=>by obtain⟨A,v,M,ms,b,_,h,_⟩:=h;exact h.elim)
 |n+1=>by
  have:=Vz ZZ (k0:=n+1) (n:=n+1) (λm h=>congrArg (λz=>oK (⟨(⟨aD,aF,aG,aI,aE,aA,aH,aJ⟩:Cs),aB,eJ aQ aP aL aM aK aO⟩:Bc) z) (Nat.succ.inj h)) (by rw[show n+1+20=n+21 by omega];exact EC n);exact this
theorem Xv:Df P w K mg base "_law_made" 24 ["_law_tree_here","_law_made_here"] (oK (⟨(⟨aD,aF,aG,aI,aE,aA,aH,aJ⟩:Cs),aB,eJ aQ aP aL aM aK aO⟩:Bc) 3):=EC ZZ 3
theorem an4{k0 n:Nat}{sp0:Sp}(hs:∀m,n=m+1->sp0=ot (⟨(⟨aD,aF,aG,aI,aE,aA,aH,aJ⟩:Cs),aB,eJ aQ aP aL aM aK aO⟩:Bc) m)(D0:Df P w K mg base "_law_sizes" k0 ["_law_tree_here"] sp0):Df P w K mg base "_law_sizes" (k0+1) ["_law_tree_here"] (ot (⟨(⟨aD,aF,aG,aI,aE,aA,aH,aJ⟩:Cs),aB,eJ aQ aP aL aM aK aO⟩:Bc) n):=by
 refine ZZ.b4.dfs Ug (λvs H Q E h=>?_) (λfz cdv Ar outer s H vs Q E hr h=>?_)
 ·obtain⟨A,v,b,rfl,_⟩:=h;rfl
 obtain⟨A',v,b,rfl,hT,q⟩:=h;refine⟨_,(eC (eX (eW sO (eO xT Y0 eI) (ij (A2 (eV [110,111,110,101]) (eV [114,111,119])))) (dX (eF (ij (A2 eI eI)))) eZ) (iN (nG 1 [] [] (iL (eO xT Y0 eI)) (λ_ _ _ _ _ _=>iq) (λ_ _ _ _ _ _=>(j4 D0 hr (A1 Y0))) Ug.nd) (dX (eF (ij (A2 (dZ fG eI (fX xt ZZ.db PyProof.Rows.boot_sum (A1 (i9 [] [] (iL Y1) (λ_ _ _ _ _ _=>iq) (λ_ _ _ _ _ _=>(eO (fN (K:=K)) Y0 eI)))))) (dZ fG eI (fX GA ZZ.dd PyProof.Rows.boot_max (A1 (i9 [] [] (iL Y1) (λ_ _ _ _ _ _=>iq) (λ_ _ _ _ _ _=>(eO (fN (K:=K)) Y0 eI)))))))))))),?_⟩
 extract_lets;cases n with
 |zero=>exact hT.elim
 |succ n=>
  obtain rfl:=hs n rfl;obtain⟨i,t,l,us,vs,bs,g,rfl,ht,hA,hl,hsh,hP,rfl⟩:=hT;refine⟨(),t,_,(()),SqT.of ht,rfl,(zL 2),λtp htp=>⟨tp,(),.inr (SqT.of dY),rfl,rfl,(),?_⟩⟩;have s0:=eE htp (.tup [.str (Tx [110,111,110,101]),.str (Tx [114,111,119])]);show if j7 (.str (Tx (iH i))) _=true then _ else _
  rw[HM];cases cx:vq i with
  |true=>
   obtain rfl:vs=[]:=by
    cases i with
    |B=>exact hsh.2.1
    |O=>obtain⟨_,_,_,_,z,_⟩:=hsh;exact z
    |_=>cases cx
   cases hP;exact fR ⟨(zL 2),λt2 ht2=>q t2 _ (s0.trans (eE ht2 _)) dY⟩
  |false=>
   obtain⟨rfl,l1,l8,_⟩:=pL hsh (λe=>by rw[e] at cx;cases cx) (λe=>by rw[e] at cx;cases cx);have ln:=Paired.length hP;refine fK ⟨λσ' H'=>∃(D:Addr) (ws:List V),σ'=[some (.ref t),some (.ref D)]/\Same H H'/\H' D=some (.lst ws)/\Paired (IY H') ws bs,?_,?_⟩
   ·refine⟨(),t,_,(()),SqT.of (s0 _ _ ht),rfl,l,rfl,⟨_,SqL.of (s0 _ _ hl)⟩,LB (xs:=vs) (λD j l' HZ=>Paired (IY HZ) l' (bs.take j)) (λD j l' HZ l0 l'' hD hN h=>Paired.mapP h λ_ _ ⟨t',e,z⟩=>⟨t',e,by rw[eQ (λe=>by rw[e,hD] at z;cases z)];exact z⟩) (by rw[dI];omega) (λD _=>.nil) (SqL.of (s0 _ _ hl)) (λj v l' D H2 E' F' hv h hD s2 hz hE hF=>?_) (λD H2 l' h hD s2 hz=>?_)⟩
    ·obtain⟨b,eb,hb⟩:=KM.Paired.at hP hv;exact⟨(),A',v,b,rfl,hb.same (s0.trans s2),λt' H5 s5 h5=>hE _ _ s5 (by rw[bH,eb];exact nC (Paired.mapP h λ_ _ ⟨t',e,z⟩=>⟨t',e,s5 _ _ z⟩) ⟨t',rfl,h5⟩)⟩
    ·rw[ln,bL] at h;exact⟨D,l',rfl,s0.trans s2,hz,h⟩
   rintro σ' H1 ⟨D1,ws,rfl,s1,hD1,hW⟩;have lw:=Paired.length hW;refine⟨(),D1,rfl,⟨_,SqL.of hD1⟩,kA (xs:=ws) (λj l'=>l'=((bs.take j).map (·.1)).map V.int) (by rw[dI];omega) rfl (SqL.of hD1) (λj v l' D H2 E' F' hv hR hD s2 hz hE hF=>?_) (λD H2 l' hR hD s2 hz=>?_)⟩
   ·subst hR;obtain⟨b,eb,t',rfl,h'⟩:=KM.Paired.at hW hv;exact⟨(),t',_,(()),SqT.of (s2 _ _ h'),rfl,hE _ _ (Same.refl _) (by rw[bH,eb,a8,a8];rfl)⟩
   subst hR;rw[lw,bL] at hz;refine⟨D,bs.map (·.1),rfl,SqL.of hz,(()),?_⟩;refine⟨(),D1,rfl,⟨_,SqL.of (s2 _ _ hD1)⟩,kA (xs:=ws) (λj l'=>l'=((bs.take j).map (·.2.1)).map V.int) (by rw[dI];omega) rfl (SqL.of (s2 _ _ hD1)) (λj v l' D' H3 E' F' hv hR hD' s3 hz' hE hF=>?_) (λD' H3 l' hR hD' s3 hz'=>?_)⟩
   ·subst hR;obtain⟨b,eb,t',rfl,h'⟩:=KM.Paired.at hW hv;exact⟨(),t',_,(()),SqT.of ((s2.trans s3) _ _ h'),rfl,hE _ _ (Same.refl _) (by rw[bH,eb,a8,a8];rfl)⟩
   subst hR;rw[lw,bL] at hz';refine⟨D',bs.map (·.2.1),rfl,SqL.of hz',(by rw[aY,←ln];omega),λM hM hle=>⟨(()),(zL 2),λt2 ht2=>?_⟩⟩;have p0:0<=M:=by
    obtain⟨b,hb,rfl⟩:=bI.mp hM;have:=(F3 hP b hb).2;omega
   rw[Ih hM hle p0];exact q t2 _ (s1.trans (s2.trans (s3.trans (eE ht2 _)))) dY
theorem Kv:∀n:Nat,Df P w K mg base "_law_sizes" (n+1) ["_law_tree_here"] (ot (⟨(⟨aD,aF,aG,aI,aE,aA,aH,aJ⟩:Cs),aB,eJ aQ aP aL aM aK aO⟩:Bc) n)
 |0=>ZZ.b4.dfs Ug (λvs H Q E h=>by obtain⟨A,v,b,_,h,_⟩:=h;exact h.elim) (λ_ _ _ _ _ _ _ _ _ _ h=>by obtain⟨A,v,b,_,h,_⟩:=h;exact h.elim)
 |n+1=>an4 ZZ (n:=n+1) (λm h=>congrArg (λz=>ot (⟨(⟨aD,aF,aG,aI,aE,aA,aH,aJ⟩:Cs),aB,eJ aQ aP aL aM aK aO⟩:Bc) z) (Nat.succ.inj h)) (Kv n)
theorem M7:Df P w K mg base "_law_sizes" 5 ["_law_tree_here"] (ot (⟨(⟨aD,aF,aG,aI,aE,aA,aH,aJ⟩:Cs),aB,eJ aQ aP aL aM aK aO⟩:Bc) 4):=Kv ZZ 4
theorem RC:Dx P w base ZZ.fs 1 (O7 K aD aF aG aI aE aA aH aJ aB aQ aP aL aM aK aO):=by
 refine ZZ.fs.dfs U9 (by trivial) ?_;rintro f _ _ _ s H _ Q E hr⟨A',t,x,Di,rfl,hN,q⟩;refine⟨_,(eC (eK 3 (eO (fN (K:=K)) Y0 eI) U9.nd) (eC (eX (eW fU Y3 (eV [114,111,119])) (dX (eF (iD (vz hr.units) (hZ (K:=K) Y1) (eO (fV (K:=K)) (eO (fN (K:=K)) Y0 eI) eI)))) eZ) (eC (eX (tW (iU (eW fU Y3 (eV [106,111,105,110])) (jB (eW fU Y3 (eV [109,101,101,116]))))) (dX (eF (kE (fX oh ZZ.aa PyProof.Rows.boot_isinstance (A2 (hZ (K:=K) Y1) (kU ZZ.cf PyProof.Rows.boot_tuple))) (jW (iD (xC hr.units) (hZ (K:=K) Y1) (jd Kg ZZ.cf PyProof.Rows.boot_tuple (A1 Y2))))))) eZ) (eC (eX (eW fU Y3 (eV [108,101,115,115])) (dX (eF (iD (Jv hr.units) (gC (A2 (hZ (K:=K) Y1) (hZ (K:=K) Y1))) Y2))) eZ) (dX (eF (qF (iD fU Y3 (eV [110,111,110,101])) (jW (iD (Jv hr.units) (gC (A1 (hZ (K:=K) Y1))) Y2))))))))),?_⟩
 extract_lets;obtain⟨n,i,l,dx,us,vs,ws,fs,bs,g,hn,h1,h2,h3,h4,h5,h6,h7,h8,h9,hA,h10,h11⟩:=hN;obtain⟨ps,rfl⟩:=Gr h8;refine⟨(),t,_,(()),SqT.of (h1),rfl,?_⟩;cases i with
 |B=>exact⟨(),rfl,(),gP (by decide) ⟨(),rfl,(),gP (by decide) ⟨(),rfl,(),gP (by decide) ⟨(),rfl,(),gP (by decide) ⟨(),rfl,(),fR (q _ (Same.refl _))⟩⟩⟩⟩⟩
 |O=>
  obtain⟨r,tm,rfl,rfl⟩:=h11 rfl;obtain⟨r',tm',f,e,_,⟨xr,m0,m1,m3,kd,kw,rfl,⟨dr,dv,wv,hxr,_⟩,_⟩,_⟩:=h7;cases e;exact⟨(),rfl,(),jv ⟨(),x,aP,dx,_,(),h6,ZZ.aq.cl,ZZ.br,rfl,(),t,_,(()),SqT.of (h1),rfl,l,_,(()),SqL.of h3,rfl,xr,aB,dr,(),rfl,hxr,ZZ.g8,q _ (Same.refl _)⟩⟩
 |J=>
  obtain⟨t',rfl,ht',_,_⟩:=h7;exact⟨(),rfl,(),gP (by decide) ⟨(),rfl,(),jv (fR ⟨(),x,aL,dx,_,(),h6,ZZ.ab.cl,ZZ.ag,rfl,.ref t',.tuple,.tuple,rfl,(by decide),.inr (.inl ⟨rfl,_,SqT.of ht'⟩),(),fR ⟨(),x,aL,dx,_,(),h6,ZZ.ab.cl,ZZ.ag,rfl,(),Di,(),.inl ⟨SqL.of h10,λl' hl'=>⟨t',l',ps,rfl,rfl,SqT.of (eE hl' _ _ _ ht'),SqT.of dY,q _ (eE hl' _)⟩⟩⟩⟩)⟩⟩
 |M=>
  obtain⟨t',rfl,ht',_,_⟩:=h7;exact⟨(),rfl,(),gP (by decide) ⟨(),rfl,(),gP (by decide) ⟨(),rfl,(),jv ⟨(),x,aM,dx,_,(),h6,ZZ.ah.cl,ZZ.ai,rfl,.ref t',.tuple,.tuple,rfl,(by decide),.inr (.inl ⟨rfl,_,SqT.of ht'⟩),(),fR ⟨(),x,aM,dx,_,(),h6,ZZ.ah.cl,ZZ.ai,rfl,(),Di,(),.inl ⟨SqL.of h10,λl' hl'=>⟨t',l',ps,rfl,rfl,SqT.of (eE hl' _ _ _ ht'),SqT.of dY,q _ (eE hl' _)⟩⟩⟩⟩⟩⟩⟩
 |L=>
  obtain⟨u,w',rfl,e,_⟩:=h7;exact⟨(),rfl,(),gP (by decide) ⟨(),rfl,(),gP (by decide) ⟨(),rfl,(),gP (by decide) ⟨(),rfl,(),jv ⟨(),x,aK,dx,_,(),h6,ZZ.ae.cl,ZZ.ap,rfl,(),x,aK,dx,_,(),h6,ZZ.ae.cl,ZZ.al,rfl,(zL 2),λl' hl'=>⟨(),l',Di,ps,rfl,rfl,SqL.of (by rw[e];exact dY),SqL.of (eE hl' _ _ _ h10),q _ (eE hl' _)⟩⟩⟩⟩⟩⟩
 |T=>
  obtain⟨u,rfl,e,_⟩:=h7;exact⟨(),rfl,(),gP (by decide) ⟨(),rfl,(),gP (by decide) ⟨(),rfl,(),gP (by decide) ⟨(),rfl,(),gP (by decide) ⟨(),rfl,(),fK ⟨(),x,aO,dx,_,(),h6,ZZ.ac.cl,ZZ.am,rfl,(zL 1),λl' hl'=>⟨(),l',Di,ps,rfl,rfl,SqL.of (by rw[e];exact dY),SqL.of (eE hl' _ _ _ h10),q _ (eE hl' _)⟩⟩⟩⟩⟩⟩⟩
theorem OJ:Dx P w base ZZ.d4 20 (Rc K aD aF aG aI aE aA aH aJ aB aQ aP aL aM aK aO):=by
 refine ZZ.d4.dfs U8 (by trivial) ?_;rintro _ _ _ _ s H _ Q E hr⟨A',t,x,Di,rfl,hN,q⟩;refine⟨_,(eC (nG 3 ["_law_tree_here"] [0] (iT (ij (aC (eV [114,111,119]) (aC (eV [106,111,105,110]) (A3 (eV [109,101,101,116]) (eV [108,101,115,115]) (eV [116,117,114,110])))))) (λ_ _ _ _ _ _=>iq) (λ_ _ _ _ _ _=>(iD fU (eO (fN (K:=K)) Y1 eI) Y0)) U8.nd) (eC (eX (tW (iU (iI (gY (fX me ZZ.aa PyProof.Rows.boot_isinstance (A2 Y1 (fE (v:=.ref aQ) ZZ.ak.at_ rfl))))) (iU (eW (B9 hr.units) (eD (XN ZZ) hr (A1 Y1)) Y3) (jB (iI (gY (eD (RC ZZ) hr (A3 Y0 Y1 Y2)))))))) (dX (eF eB)) eZ) (eC (eK 4 (ij (A2 (nW (xa ZZ 4) hr Y1) (nW (CD ZZ 4) hr Y1))) U8.nd) (dX (eF (kE (eD (ID ZZ) hr (A1 (eO (fN (K:=K)) Y4 eI))) (kE (eD (ID ZZ) hr (A1 (eO (fN (K:=K)) Y4 eI))) (jW (iD (uJ hr.units) Y4 (eD (M7 ZZ) hr (A1 Y0))))))))))),?_⟩
 extract_lets;obtain⟨n,i,l,dx,us,vs,ws,fs,bs,g,hn,h1,h2,h3,h4,h5,h6,h7,h8,h9,hA,h10,h11⟩:=id hN;refine⟨(zL 5),λtp htp=>?_⟩;have s0:=eE htp (.tup (WS5.map λw=>.str (Tx w)));refine⟨tp,rfl,⟨_,SqT.of dY⟩,oo (xs:=WS5.map λw=>.str (Tx w)) (λj l'=>l'=((WS5.take j).map λw=>decide (V.str (Tx (iH i))=V.str (Tx w))).map V.bl) (zL 5) rfl (SqT.of dY) (λj v l' D H2 E' F' hv hR hD s2 hz hE hF=>?_) (λD H2 l' hR hD s2 hz=>?_)⟩
 ·subst hR;obtain⟨w',ew,rfl⟩:∃w',WS5[j]? =some w'/\v=.str (Tx w'):=by
   rw[bN] at hv;cases e:WS5[j]? with
   |none=>rw[e] at hv;cases hv
   |some w'=>rw[e] at hv;exact⟨w',rfl,(bF hv).symm⟩
  exact⟨(),t,_,(()),SqT.of ((s0.trans s2) _ _ h1),rfl,(),rfl,hE _ _ (Same.refl _) (by rw[bH,ew,a8,a8];rfl)⟩
 subst hR;rw[show (WS5.map λw=>V.str (Tx w)).length=5 from rfl,show WS5.take 5=WS5 from rfl,si] at hz;have s02:=s0.trans s2;have ⟨hi,hc,hk⟩:IsC K ((⟨(⟨aD,aF,aG,aI,aE,aA,aH,aJ⟩:Cs),aB,eJ aQ aP aL aM aK aO⟩:Bc).k i)/\Cls K ((⟨(⟨aD,aF,aG,aI,aE,aA,aH,aJ⟩:Cs),aB,eJ aQ aP aL aM aK aO⟩:Bc).k i)/\PySem.W.kitOne K (.ref ((⟨(⟨aD,aF,aG,aI,aE,aA,aH,aJ⟩:Cs),aB,eJ aQ aP aL aM aK aO⟩:Bc).k i)) (.ref aQ)=some true:=by cases i with
  |B=>exact⟨ZZ.cb,ZZ.ak.cl,ZZ.cd⟩
  |O=>exact⟨ZZ.c8,ZZ.aq.cl,ZZ.c9⟩
  |J=>exact⟨ZZ.bl,ZZ.ab.cl,ZZ.bn⟩
  |M=>exact⟨ZZ.cr,ZZ.ah.cl,ZZ.cs⟩
  |L=>exact⟨ZZ.cc,ZZ.ae.cl,ZZ.ce⟩
  |T=>exact⟨ZZ.bm,ZZ.ac.cl,ZZ.bo⟩
 have ty:=hi.ty hc (s02 _ _ h6);refine⟨(),_,_,aQ,(),ty,hk,(),fK ⟨(),x,dx,i,fs,rfl,s02 _ _ h6,λDs H3 s3 h3'=>⟨(),Ds,D,qL i,qL i,rfl,rfl,SqL.of h3',SqL.of (s3 _ _ hz),?_⟩⟩⟩;rw[dN rfl];have s03:=s02.trans s3;refine⟨(),fK ⟨(),(),(),A',t,x,Di,rfl,hN.same s03,λH4 s4=>⟨(),fK ?_⟩⟩⟩;have s04:=s03.trans s4;have hB:Bk A' (⟨(⟨aD,aF,aG,aI,aE,aA,aH,aJ⟩:Cs),aB,eJ aQ aP aL aM aK aO⟩:Bc) 4 H (.ref x) (gM g bs):=⟨i,x,rfl,dx,fs,ws,bs,g,h6,h7,Paired.mapP h8 λ_ _ z=>z.upn hn,h9,rfl⟩
 have hT:Tr A' (⟨(⟨aD,aF,aG,aI,aE,aA,aH,aJ⟩:Cs),aB,eJ aQ aP aL aM aK aO⟩:Bc) 4 H (.ref t) (gM g bs):=⟨i,t,l,us,vs,bs,g,rfl,h1,h2,h3,h4,Paired.mapP h5 λ_ _ z=>z.upn hn,rfl⟩;refine⟨A',_,(),hB.same s04,rfl,λH5 s5=>⟨A',_,(),hB.same (s04.trans s5),rfl,λH6 s6=>⟨(zL 2),λtz htz=>?_⟩⟩⟩;have s06:=s04.trans (s5.trans (s6.trans (eE htz (.tup [.int (gM g bs).1,.int (gM g bs).2.1]))));refine⟨(),tz,_,(()),SqT.of dY,rfl,(),(),fR ⟨(),tz,_,(()),SqT.of dY,rfl,(),(),fR ⟨(),(),A',_,(),hT.same s06,λt2 H7 s7 h7'=>⟨tz,t2,true,[(gM g bs).1,(gM g bs).2.1],[(gM g bs).1,(gM g bs).2.1],rfl,rfl,SqT.of (s7 _ _ dY),SqT.of h7',?_⟩⟩⟩⟩
 show Q (.bl (decide _)) _;rw[dN rfl];exact q _ (s06.trans s7)
theorem Vd:Dx P w base ZZ.cz 20 (ZT K aD aF aG aI aE aA aH aJ aB aQ aP aL aM aK aO):=by
 refine ZZ.cz.dfs Ud (by trivial) ?_;rintro _ _ _ _ s H _ Q E hr⟨A',t,x,Di,mo,rfl,hN,q⟩;refine⟨_,(eC (eK 3 (eO (fN (K:=K)) Y0 eI) Ud.nd) (eC (eX (eW (p8 (K:=K)) Y3 (ij (A2 (eV [110,111,110,101]) (eV [114,111,119])))) (dX (eF eB)) eZ) (iN (eX (eW (p8 (K:=K)) Y3 (ij (A2 (eV [106,111,105,110]) (eV [109,101,101,116])))) (dX (eK 4 (jd xQ ZZ.cv PyProof.Rows.boot_list (A1 (hZ (K:=K) Y1))) Ud.nd)) (dX (eX (eW fU Y3 (eV [108,101,115,115])) (dX (eK 4 (gC (A2 (hZ (K:=K) Y1) (hZ (K:=K) Y1))) Ud.nd)) (dX (eK 4 (gC (A1 (hZ (K:=K) Y1))) Ud.nd))))) (dX (eF (iD (GR hr.units) (i9 ["_law_moment_here"] [2] (kf (K:=K) Y4) (λ_ _ _ _ _ _=>iq) (λ_ _ _ _ _ _=>(lP (oN ZZ 3) hr Y0 k7 Y1))) (i9 ["_law_moment_here"] [2] (kf (K:=K) (eO (fN (K:=K)) Y0 eI)) (λ_ _ _ _ _ _=>iq) (λ_ _ _ _ _ _=>(eD (zM ZZ) hr (A2 Y0 Y1)))))))))),?_⟩
 extract_lets;obtain⟨n,i,l,dx,us,vs,ws,fs,bs,g,hn,h1,h2,h3,h4,h5,h6,h7,h8,h9,hA,h10,h11⟩:=hN;refine⟨(),t,_,(()),SqT.of h1,rfl,?_⟩;refine⟨(),(zL 2),λtp htp=>⟨tp,(),.inr (SqT.of dY),rfl,rfl,(),?_⟩⟩;have s0:=eE htp (.tup [.str (Tx [110,111,110,101]),.str (Tx [114,111,119])]);show if j7 (.str (Tx (iH i))) _=true then _ else _
 rw[HM];cases cx:vq i with
 |true=>exact fR (q _ s0)
 |false=>
  refine fK ⟨λσ' H'=>∃D:Addr,σ'=[some (.ref t),some (.ref x),some (.int mo),some (.str (Tx (iH i))),some (.ref D)]/\Same H H'/\H' D=some (.lst ws),?_,?_⟩
  ·refine⟨(),(zL 2),λtq htq=>⟨tq,(),.inr (SqT.of dY),rfl,rfl,(),?_⟩⟩;have s1:=s0.trans (eE htq (.tup [.str (Tx [106,111,105,110]),.str (Tx [109,101,101,116])]));show if j7 (.str (Tx (iH i))) _=true then _ else _
   rw[Oi];cases i with
   |B=>cases cx
   |O=>cases cx
   |J=>
    obtain⟨t',rfl,ht',_,_⟩:=h7;exact fR ⟨(),x,aL,dx,_,(),s1 _ _ h6,ZZ.ab.cl,ZZ.ag,rfl,_,(),.inr (SqT.of (s1 _ _ ht')),λD hD=>⟨D,rfl,s1.trans (eE hD _),dY⟩⟩
   |M=>
    obtain⟨t',rfl,ht',_,_⟩:=h7;exact fR ⟨(),x,aM,dx,_,(),s1 _ _ h6,ZZ.ah.cl,ZZ.ai,rfl,_,(),.inr (SqT.of (s1 _ _ ht')),λD hD=>⟨D,rfl,s1.trans (eE hD _),dY⟩⟩
   |L=>
    obtain⟨u,w',rfl,rfl,_⟩:=h7;exact fK ⟨(),rfl,(),jv ⟨(),x,aK,dx,_,(),s1 _ _ h6,ZZ.ae.cl,ZZ.ap,rfl,(),x,aK,dx,_,(),s1 _ _ h6,ZZ.ae.cl,ZZ.al,rfl,(zL 2),λD hD=>⟨D,rfl,s1.trans (eE hD _),dY⟩⟩⟩
   |T=>
    obtain⟨u,rfl,rfl,_⟩:=h7;exact fK ⟨(),rfl,(),gP (by decide) ⟨(),x,aO,dx,_,(),s1 _ _ h6,ZZ.ac.cl,ZZ.am,rfl,(zL 1),λD hD=>⟨D,rfl,s1.trans (eE hD _),dY⟩⟩⟩
  rintro σ' H1 ⟨D,rfl,s1,hD⟩;obtain⟨y,m,k,ok,e⟩:=tT (mo / 1440);obtain⟨rfl,l1,l8,_⟩:=pL h4 (λe=>by rw[e] at cx;cases cx) (λe=>by rw[e] at cx;cases cx);refine⟨(),D,rfl,⟨_,SqL.of hD⟩,kA (xs:=ws) (λj l'=>l'=((bs.take j).map λb=>gS b.2.2 mo y m k).map V.bl) (by rw[dI];omega) rfl (SqL.of hD) (λj v l' D' H2 E' F' hv hR hD' s2 hz hE hF=>?_) (λD' H2 l' hR hD' s2 hz=>?_)⟩
  ·subst hR;obtain⟨b,eb,hb⟩:=KM.Paired.at h8 hv;exact⟨(),A',_,b,rfl,(hb.upn hn).same (s1.trans s2),mo,y,m,k,rfl,ok,e,λH5 s5=>hE _ _ s5 (by rw[bH,eb,a8,a8];rfl)⟩
  subst hR;rw[Paired.length h8,bL] at hz;have s12:=s1.trans s2;refine⟨(),t,_,(()),SqT.of (s12 _ _ h1),rfl,l,rfl,⟨_,SqL.of (s12 _ _ h3)⟩,kA (xs:=vs) (λj l'=>l'=((bs.take j).map λb=>gS b.2.2 mo y m k).map V.bl) (by rw[dI];omega) rfl (SqL.of (s12 _ _ h3)) (λj v l' D2 H3 E' F' hv hR hD2 s3 hz2 hE hF=>?_) (λD2 H3 l' hR hD2 s3 hz2=>?_)⟩
  ·subst hR;obtain⟨b,eb,hb⟩:=KM.Paired.at h5 hv;exact⟨(),(),A',v,b,mo,y,m,k,rfl,(hb.upn hn).same (s12.trans s3),ok,e,λH5 s5=>hE _ _ s5 (by rw[bH,eb,a8,a8];rfl)⟩
  subst hR;rw[Paired.length h5,bL] at hz2;refine⟨D',D2,(()),SqL.of (s3 _ _ hz),SqL.of hz2,?_⟩;rw[dN rfl];exact q _ (s12.trans s3)
theorem aIO{fL:Addr}{fdL:FuncData}(F:Fun K "law" "law" (top 147) fL fdL):gF P w K mg base je 25 fL fdL ["_law_script"] (qh K aR aS):=by
 refine F.oks Ut (by trivial) ?_;rintro _ _ _ s H _ Q E hr⟨a,ns,rfl,hS,hlen,hTb,q⟩;refine⟨_,(eC (eK 1 (iD fU (dZ ig (eD (qV ZZ) hr (A2 Y0 eI)) eI) eI) Ut.nd) (iN (eK 2 (eD (Vf ZZ) hr (aC Y0 (A3 eI eI Y1))) Ut.nd) (eC (eK 3 (gC aN) Ut.nd) (iN (eK 4 (eD (Xv ZZ) hr (A2 Y2 Y3)) Ut.nd) (iN (nG 5 ["_law_tree_here","_law_mixed","_law_script"] [2,1,0] (oP ZZ.ar (A1 eI)) (λ_ _ _ _ _ _=>iq) (λ_ _ _ _ _ _=>(eD (Md ZZ) hr (A3 Y1 (eD (qV ZZ) hr (A2 Y3 (dZ fG eI Y0))) Y2))) Ut.nd) (iN (j9 (kf (K:=K) Y3) (oF (K:=K) (jE (gN 6 Ut.nd) (jE (gN 7 Ut.nd) (jE (gN 8 Ut.nd) mK)))) (dX (eX (tW (iU (iI (gY (eD (OJ ZZ) hr (A3 Y6 Y7 Y8)))) (jB (iI (gY (eD (Vd ZZ) hr (A3 Y6 Y7 (eO (fV (K:=K)) Y5 eI)))))))) (dX (eF eB)) eZ)) PassesOwn.never) (iN (eK 9 (j2 ZZ.ac (Hm ZZ) hr (A1 Y4)) Ut.nd) (iN (j9 (kf (K:=K) Y5) (gN 10 Ut.nd) (eC (eK 11 (eD (zM ZZ) hr (A2 Y2 (v_ 10))) Ut.nd) (eC (eK 12 (lP (oN ZZ 3) hr Y4 k7 (v_ 10)) Ut.nd) (dX (eX (tW (iU (iI (gY (fX oh ZZ.aa PyProof.Rows.boot_isinstance (A2 (v_ 12) (kU ZZ.cu PyProof.Rows.boot_bool))))) (iU (eW l6 (v_ 12) (v_ 11)) (jB (eW l6 (lP (oN ZZ 4) hr Y9 k7 (v_ 10)) (mL (v_ 11))))))) (dX (eF eB)) eZ)))) PassesOwn.never) (dX (eF (iD (GR hr.units) (i9 ["_law_book"] [4] (kf (K:=K) Y5) (λ_ _ _ _ _ _=>iq) (λ_ _ _ _ _ _=>(lP (oN ZZ 3) hr Y1 k7 Y0))) (i9 ["_law_tree_here"] [2] (kf (K:=K) Y5) (λ_ _ _ _ _ _=>iq) (λ_ _ _ _ _ _=>(eD (zM ZZ) hr (A2 Y1 Y0))))))))))))))),?_⟩
 extract_lets;refine⟨(),a,(),⟨ns,hS⟩,⟨by decide,by decide⟩,λc0=>⟨(()),(by show (0:Int)<2;decide),rfl,?_⟩⟩;refine (λbm=>?_:∀bm:Bool,jy 1 (V.bl bm) _ _ _) _;refine⟨λσ' H'=>∃(t:Addr) (b:Bt),σ'=[some (.ref a),some (.bl bm),some (.ref t),none,none,none,none,none,none,none,none,none,none]/\Same H H'/\Tr (λp=>H p=none) (⟨(⟨aD,aF,aG,aI,aE,aA,aH,aJ⟩:Cs),aB,eJ aQ aP aL aM aK aO⟩:Bc) 3 H' (.ref t) b/\ph 3 b,⟨(),(),a,0,bm,ns,rfl,hS,(by decide),λt b H' s' hT hB=>⟨t,b,rfl,s',hT,hB⟩⟩,?_⟩
 rintro σ' H1 ⟨t,b,rfl,s1,hT,hTB⟩;have t3:tl 3=13:=rfl;obtain⟨_,tb1,_,tb2⟩:=hTB;refine⟨(zL 0),λM hM=>?_⟩;refine⟨λσ' H'=>∃(u:V) (ms:List V),σ'=[some (.ref a),some (.bl bm),some (.ref t),some (.ref M),some u,none,none,none,none,none,none,none,none]/\Same H H'/\Tr (λp=>H p=none) (⟨(⟨aD,aF,aG,aI,aE,aA,aH,aJ⟩:Cs),aB,eJ aQ aP aL aM aK aO⟩:Bc) 3 H' (.ref t) b/\Bk (λp=>H p=none) (⟨(⟨aD,aF,aG,aI,aE,aA,aH,aJ⟩:Cs),aB,eJ aQ aP aL aM aK aO⟩:Bc) 3 H' u b/\H' M=some (.lst ms)/\(ms.length:Int)<=24/\∀e∈ms,MdOk (λp=>H p=none) (⟨(⟨aD,aF,aG,aI,aE,aA,aH,aJ⟩:Cs),aB,eJ aQ aP aL aM aK aO⟩:Bc) H' e,?_,?_⟩
 ·have sM:=eE hM (.lst []);have hT':=(Tr.inn 3 hT).same sM;refine⟨(),(),λp=>H p=none/\H1 p≠none,_,M,[],b,rfl,hT',by decide,⋯,dY,λp hp e=>hp.2 (by rw[e];exact hM),(by show ((0:Nat):Int)+_<=_;omega),λu ms H' sB hm hB hms hl=>?_⟩;have nM:H M=none:=s1.none hM;have sH:Same H H':=λp o hp=>sB p o (λe=>by rw[e,nM] at hp;cases hp) ((s1.trans sM) p o hp);have w:∀p,(H p=none/\H1 p≠none)∨upd H1 M (.lst []) p=none->H p=none:=λp hp=>hp.elim (·.1) λz=>(s1.trans sM).none z
  have k0:Kp (λp=>H p=none/\H1 p≠none) (upd H1 M (.lst [])) H':=sB.kp dY λp hp e=>hp.2 (by rw[e];exact hM);exact⟨u,ms,rfl,sH,hT'.go (λ_ z=>z.1) k0 _,hB.go w (iu (Same.refl _)) _,hm,⋯,λe he=>(hms e he).go w (iu (Same.refl _))⟩
 rintro σ' H2 ⟨u,ms,rfl,s2,hT2,hB2,hM2,hml,hMd⟩;have hk:b.1<=13/\b.2.1<=4:=⟨⋯,⋯⟩;clear tb1 tb2 t3 hT;refine⟨λσ' H'=>∃(D:Addr) (rs:List Int),σ'=[some (.ref a),some (.bl bm),some (.ref t),some (.ref M),some u,some (.ref D),none,none,none,none,none,none,none]/\SameN H2 H'/\H' D=some (.lst (rs.map V.int))/\rs.length=14,?_,?_⟩
 ·refine⟨(),by decide,by decide,NJ (λD j l HZ=>kH HZ aR aS/\∃rs:List Int,l=rs.map V.int/\rs.length=j) (λD j l HZ l0 l' hD hN h=>⟨NB hD h.1,h.2⟩) (by show (14:Int).toNat<=sizeLine;decide) (λD hD=>⟨pU (s2.trans (eE hD _)) hTb,[],rfl,rfl⟩) (λj l D H5 E' F' hj ⟨hT5,rs,hl,hr5⟩ hD s5 hz hE hF=>?_) (λD H5 l ⟨hT5,rs,hl,hr5⟩ hD s5 hz=>⟨D,rs,rfl,s5,by rw[hz,hl],hr5⟩)⟩;have hj14:j<14:=hj;subst hl;exact⟨(),(),(),(()),a,(),⟨ns,Zi ((jQ s2).trans s5) hS⟩,⟨⋯,⋯⟩,λc=>⟨(),_,.ref t,b,c,bm,rfl,hT2.go (λ_ z=>z) (rY s5) _,hT5,λr H7 s7 T7=>hE _ _ s7 ⟨T7,rs++[r],by rw[a8];rfl,by rw[aZ,hr5];rfl⟩⟩⟩
 rintro σ' H3 ⟨Dm,rs,rfl,s3,hDm,l14⟩;obtain⟨r0,rt,rfl⟩:∃r0 rt,rs=r0::rt:=by
  cases rs with
  |nil=>cases l14
  |cons r0 rt=>exact⟨r0,rt,rfl⟩
 have hM3:=s3 _ _ (λ_ z=>by cases z) hM2;have hMd3:∀e∈ms,MdOk (λp=>H p=none) (⟨(⟨aD,aF,aG,aI,aE,aA,aH,aJ⟩:Cs),aB,eJ aQ aP aL aM aK aO⟩:Bc) H3 e:=λe he=>(hMd e he).go (λ_ z=>z) (rY s3);have hT3:=hT2.go (λ_ z=>z) (rY s3) _;have hB3:=hB2.go (λ_ z=>z) (rY s3) _;clear hT2 hB2 hMd hM2 s3 s2 s1;refine⟨λσ' H'=>∃v6 v7 v8,σ'=[some (.ref a),some (.bl bm),some (.ref t),some (.ref M),some u,some (.ref Dm),v6,v7,v8,none,none,none,none]/\Same H3 H',?_,?_⟩
 ·refine⟨(),M,rfl,⟨_,SqL.of hM3⟩,mM (K:=K) (a:=M) (xs:=ms) (λj σ H5=>∃v6 v7 v8,σ=[some (.ref a),some (.bl bm),some (.ref t),some (.ref M),some u,some (.ref Dm),v6,v7,v8,none,none,none,none]/\Same H3 H5) ⟨_,_,(),Same.refl _⟩ (λj σ H5 _ ⟨_,_,_,_,h⟩=>SqL.of (h _ _ hM3)) ?turn ?done⟩
  case done=>
   rintro σ H5 ⟨v6,v7,v8,rfl,s5⟩;exact⟨_,_,(),s5⟩
  case turn=>
   rintro j e σ H5 hx ⟨v6,v7,v8,rfl,s5⟩;obtain⟨qq,t',x',D',rfl,hq,hN⟩:=(hMd3 e (bU hx)).go (λ_ z=>z) (iu s5);exact⟨qq,(),SqT.of hq,rfl,_,(),_,(),(()),(),(),(),_,t',x',D',rfl,hN,λH6 s6=>⟨(),fK ⟨(),(),(),Dm,_,(()),SqL.of ((s5.trans s6) _ _ hDm),Za,_,t',x',D',r0,rfl,hN.same s6,λH7 s7=>⟨(),fK ⟨_,_,(),s5.trans (s6.trans s7)⟩⟩⟩⟩⟩
 rintro σ' H4 ⟨v6,v7,v8,rfl,s4⟩;refine⟨λσ' H'=>∃y,σ'=[some (.ref a),some (.bl bm),some (.ref t),some (.ref M),some u,some (.ref Dm),v6,v7,v8,some (.ref y),none,none,none]/\Same H4 H'/\Bk (λp=>H p=none) (⟨(⟨aD,aF,aG,aI,aE,aA,aH,aJ⟩:Cs),aB,eJ aQ aP aL aM aK aO⟩:Bc) 4 H' (.ref y) (gM j8 [b]),⟨(),λx dx nx nd _=>Ad (R:=λH'=>∃y,[some (.ref a),some (.bl bm),some (.ref t),some (.ref M),some u,some (.ref Dm),v6,v7,v8,some (.ref x),none,none,none]=[some (.ref a),some (.bl bm),some (.ref t),some (.ref M),some u,some (.ref Dm),v6,v7,v8,some (.ref y),none,none,none]/\Same H4 H'/\Bk (λp=>H p=none) (⟨(⟨aD,aF,aG,aI,aE,aA,aH,aJ⟩:Cs),aB,eJ aQ aP aL aM aK aO⟩:Bc) 4 H' (.ref y) (gM j8 [b])) (.cons (hB3.same s4) .nil) (by decide) ⟨(by show 1+(b.1+0)<=24;omega),(by show 1+max 0 b.2.1<=5;omega)⟩ (λH5 s5 hB=>⟨x,rfl,s5,hB⟩) nx nd⟩,?_⟩
 rintro σ' H5 ⟨y,rfl,s5,hO⟩;have s35:=s4.trans s5;have hT5:=hT3.same s35;have hB5:=hB3.same s35;have hDm5:=s35 _ _ hDm;refine⟨λσ' H'=>∃v10 v11 v12,σ'=[some (.ref a),some (.bl bm),some (.ref t),some (.ref M),some u,some (.ref Dm),v6,v7,v8,some (.ref y),v10,v11,v12]/\Same H5 H',?_,?_⟩
 ·refine⟨(),Dm,rfl,⟨_,SqL.of hDm5⟩,mM (K:=K) (a:=Dm) (xs:=(r0::rt).map V.int) (λj σ H6=>∃v10 v11 v12,σ=[some (.ref a),some (.bl bm),some (.ref t),some (.ref M),some u,some (.ref Dm),v6,v7,v8,some (.ref y),v10,v11,v12]/\Same H5 H6) ⟨_,_,(),Same.refl _⟩ (λj σ H6 _ ⟨_,_,_,_,h⟩=>SqL.of (h _ _ hDm5)) ?turn ?done⟩
  case done=>
   rintro σ H6 ⟨v10,v11,v12,rfl,s6⟩;exact⟨_,_,(),s6⟩
  case turn=>
   rintro j e σ H6 hx ⟨v10,v11,v12,rfl,s6⟩;obtain⟨mo,_,rfl⟩:=bI.mp (bU hx);obtain⟨y',m,k,ok,e⟩:=tT (mo / 1440);refine⟨(),(),_,.ref t,b,mo,y',m,k,rfl,hT5.same s6,ok,e,λH7 s7=>⟨(),_,_,b,rfl,hB5.same (s6.trans s7),mo,y',m,k,rfl,ok,e,λH8 s8=>?_⟩⟩;refine⟨(),.bl _,.bool,.bool,rfl,(by decide),rfl,(),fK ⟨(),(),rfl,(),iJ (by rw[dN rfl];rfl) ?_⟩⟩;refine⟨(),_,_,(),hO.same (s6.trans (s7.trans s8)),mo,y',m,k,rfl,ok,e,λH9 s9=>⟨(),(),rfl,(),iJ ?_ ⟨_,_,(),s6.trans (s7.trans (s8.trans s9))⟩⟩⟩
   have eb:gS (gM j8 [b]).2.2 mo y' m k= !gS b.2.2 mo y' m k:=zb (Tr.ok 3 hT5);rw[eb,dN rfl];rfl
 rintro σ' H6 ⟨v10,v11,v12,rfl,s6⟩;have hT6:=hT5.same s6;have hB6:=hB5.same s6;have hDm6:=s6 _ _ hDm5;have hF0:∀mo:Int,∃c,∃y m k,jn y m k/\io y m k=mo / 1440/\gS b.2.2 mo y m k=c:=λmo=>by
  obtain⟨y,m,k,ok,e⟩:=tT (mo / 1440);exact⟨_,y,m,k,ok,e,rfl⟩
 obtain⟨F,hF⟩:=Classical.axiomOfChoice hF0;have pf:∀{j:Nat} {v:V},((r0::rt).map V.int)[j]? =some v->∃mo,v=.int mo/\(((r0::rt).take (j+1)).map F).map V.bl=(((r0::rt).take j).map F).map V.bl++[.bl (F mo)]:=λ{j v} hv=>by
  rw[bN] at hv;cases e:(r0::rt)[j]? with
  |none=>rw[e] at hv;cases hv
  |some mo=>rw[e] at hv;exact⟨mo,(bF hv).symm,by rw[bH,e,a8,a8];rfl⟩
 have ln:((r0::rt).map V.int).length<=sizeLine:=by rw[aY,l14];decide
 refine⟨(),Dm,rfl,⟨_,SqL.of hDm6⟩,kA (xs:=(r0::rt).map V.int) (λj l'=>l'=(((r0::rt).take j).map F).map V.bl) ln rfl (SqL.of hDm6) (λj v l' D' H7 E' F' hv hR hD' s7 hz hE hF'=>?_) (λD' H7 l' hR hD' s7 hz=>?_)⟩
 ·subst hR;obtain⟨mo,rfl,e1⟩:=pf hv;obtain⟨y',m,k,ok,e,ec⟩:=hF mo;exact⟨(),_,_,b,rfl,hB6.same s7,mo,y',m,k,rfl,ok,e,λH8 s8=>hE _ _ s8 (by rw[e1,ec])⟩
 subst hR;rw[aY,bL] at hz;refine⟨(),Dm,rfl,⟨_,SqL.of (s7 _ _ hDm6)⟩,kA (xs:=(r0::rt).map V.int) (λj l'=>l'=(((r0::rt).take j).map F).map V.bl) ln rfl (SqL.of (s7 _ _ hDm6)) (λj v l' D2 H8 E' F' hv hR hD2 s8 hz2 hE hF'=>?_) (λD2 H8 l' hR hD2 s8 hz2=>?_)⟩
 ·subst hR;obtain⟨mo,rfl,e1⟩:=pf hv;obtain⟨y',m,k,ok,e,ec⟩:=hF mo;exact⟨(),(),_,.ref t,b,mo,y',m,k,rfl,hT6.same (s7.trans s8),ok,e,λH9 s9=>hE _ _ s9 (by rw[e1,ec])⟩
 subst hR;rw[aY,bL] at hz2;refine⟨D',D2,(()),SqL.of (s8 _ _ hz),SqL.of hz2,?_⟩;rw[dN rfl];exact q _
end
theorem all_mk{l:PySem.W.OpenLaw}{w:World}{K:FG}{h:Heap}{mg:Str->Option Value}{fa f:Addr}{aJ aD aF aG aI aE aA aH aB aQ aP aL aM aK aO aV aU aW aR aS a_MONTH_LASTS a_BOUNDS a_BOUNDS_0 a_BOUNDS_1 a_BOUNDS_3:Addr}{t_ROUND_DAYS t_ROUND_YEARS t_LONG_PLACE t_DAY_MINUTES t_HOUR_MINUTES t_FIGURES t_MOST_STRIDE t_MOST_SIGNS t_MOST_ITEMS t_SATURDAY t_SUNDAY t_MOST_BACK t_MOST_DAY t_SUNDAY_TOO t_MOST_NTH t_MOST_MARKS t_ALL_WEEKDAYS t_LONG_LAST t_SHORT_YEAR t_MINUTE t_HOUR t_DAY t_MONTH t_WEEKDAY t_MOST_ROW_SIGNS t_NO_PLACE t_MOST_MONTHS t_MOST_TALLY t_MOST_DEPTH t_MOST_BOOKS:Tok}{oc kV dc pm cd ct:Value}{od an:Option Addr}{sl:Array (Option Value)}(X:K.In h)(G:h.Ns mainGlobals mg)(hfa:mg "law"=some (.ref fa))(ZZ:Fs K mg aJ aD aF aG aI aE aA aH aB aQ aP aL aM aK aO aV aU aW aR aS a_MONTH_LASTS a_BOUNDS a_BOUNDS_0 a_BOUNDS_1 a_BOUNDS_3 t_ROUND_DAYS t_ROUND_YEARS t_LONG_PLACE t_DAY_MINUTES t_HOUR_MINUTES t_FIGURES t_MOST_STRIDE t_MOST_SIGNS t_MOST_ITEMS t_SATURDAY t_SUNDAY t_MOST_BACK t_MOST_DAY t_SUNDAY_TOO t_MOST_NTH t_MOST_MARKS t_ALL_WEEKDAYS t_LONG_LAST t_SHORT_YEAR t_MINUTE t_HOUR t_DAY t_MONTH t_WEEKDAY t_MOST_ROW_SIGNS t_NO_PLACE t_MOST_MONTHS t_MOST_TALLY t_MOST_DEPTH t_MOST_BOOKS)
  (a:PySem.W.nsIn K mainGlobals "law"=some (some (.ref f))) (lk:K.lookup f=some ⟨oc,od,.func (PySem.W.fnOf "law" "law" (jf (top 147)) (iG (top 147)) (eG (top 147)) .none kV dc pm an cd ct),sl⟩) (c:PySem.W.codeIn K cd "law"=true) (k:PySem.W.keepIn K (.ref f)=true):
  ∃fd:FuncData,(∀(s:Shared) (v:Value),BindsTo s fd ⟨[v],[]⟩ [("_law_script",v)])/\∀base:Heap,K.In base->base.Ns mainGlobals mg->gF l.prog w K mg base je 25 fa fd ["_law_script"] (qh K aR aS):=by
 cases hfa.symm.trans (PySem.W.mg_of X G a);exact⟨_,λs v=>.of_eq rfl,λbase _ _=>aIO ZZ (rm (st:=(top 147)) lk c k)⟩
theorem walk{l:PySem.W.OpenLaw}{q:Program}{loose:List Str}{XP:(Str->Option Value)->Heap->Prop}{YP:World->Heap->Prop}{d:DefRec}{K:Params->FG}{tN bm:Addr}(hn:l.most=some 63)(hdf:d.params.defaults=[])
  (hY:∀(w:World) (h:Heap),YP w h->(K w.params).In h)
  (hTb:∀(w:World) (h:Heap) (mean:ExcName->Option Value) (mg mb:Str->Option Value),(K w.params).In h->Top q (PySem.W.looseW q loose) mean mg mb h->∀b∈[tN],(isCodeTable h b/\h.get? b=some (PySem.W.tabObj #[]))/\(K w.params).lookup b=none)
  (hBm:∀(w:World) (h:Heap) (mg:Str->Option Value),(K w.params).In h->h.Ns mainGlobals mg->mg "__builtins__"=some (.ref bm)/\(K w.params).lookup bm=none)
  (F:∀(w:World) (mg:Str->Option Value) (fa:Addr) (h:Heap),(K w.params).In h->h.Ns mainGlobals mg->mg d.name=some (.ref fa)->
   ∃fd:FuncData,(∀(s:Shared) (u:Value),BindsTo s fd ⟨[u],[]⟩ [("_law_script",u)])/\∀base:Heap,(K w.params).In base->base.Ns mainGlobals mg->gF l.prog w (K w.params) mg base je 25 fa fd ["_law_script"] (qh (K w.params) tN bm)):
  PySem.W.WalkO q loose XP YP l.row.toRowW d [] (λf vs=>PySem.call f vs):=
 L2.walk_ofT (n:=63) (k:=25) (x:="_law_script") (tabs:=λ_=>[tN]) (sp:=λw=>qh (K w.params) tN bm) hn (by decide) hdf ⟨rfl,by decide,by decide⟩ hY hTb hBm F λ_ _ a ns hl hO hS=>⟨a,ns,rfl,hS,hl,⟨.inl (hO.1 _ bS),hO.2.2⟩,λ_=>rfl⟩
end K61
open PySem PySem.W PyProof.Rows L2
set_option maxRecDepth 100000 in
set_option maxHeartbeats 0 in
theorem PySem.Challenge.cw_fivefields_k61_books_hold_holds : PySem.Challenge.rw_fivefields_k61_books_hold.Holds := by
 w_on;refine holds_law Hd.ws fun said=>?_;refine Hd.lst said ?hw ?hc;(case hw=>w_witness2)
 k_fill
 refine K61.walk (l:=PySem.Challenge.rw_fivefields_k61_books_hold) (tN:=1101) (bm:=4) rfl Hd.h4 (fun w h Y=>PySem.W.kIn_of Y) Hd.tb Hd.tbm ?F
 case F=>
  intro w mg fa h KX G hmg
  rw[Hd.h5] at hmg
  refine' K61.all_mk (aW:=1105) (aR:=1101) (aS:=4) KX G hmg ⟨
   ⟨PySem.W.mg_of KX G ?_,⟨?_,?_,?_,?_⟩,?_,?_⟩,?_,⟨PySem.W.mg_of KX G ?_,⟨?_,?_,?_,?_⟩,?_,?_⟩,?_,⟨PySem.W.mg_of KX G ?_,⟨?_,?_,?_,?_⟩,?_,?_⟩,?_,⟨PySem.W.mg_of KX G ?_,⟨?_,?_,?_,?_⟩,?_,?_⟩,?_,⟨PySem.W.mg_of KX G ?_,⟨?_,?_,?_,?_⟩,?_,?_⟩,?_,⟨PySem.W.mg_of KX G ?_,⟨?_,?_,?_,?_⟩,?_,?_⟩,?_,⟨PySem.W.mg_of KX G ?_,⟨?_,?_,?_,?_⟩,?_,?_⟩,?_,?_,⟨PySem.W.mg_of KX G ?_,⟨?_,?_,?_,?_⟩,?_,?_⟩,?_,⟨PySem.W.mg_of KX G ?_,⟨?_,?_,?_,?_⟩,?_,?_⟩,?_,?_,?_,?_,?_,?_,⟨PySem.W.mg_of KX G ?_,⟨?_,?_,?_,?_⟩,?_,?_⟩,?_,⟨PySem.W.mg_of KX G ?_,⟨?_,?_,?_,?_⟩,?_,?_⟩,?_,⟨PySem.W.mg_of KX G ?_,⟨?_,?_,?_,?_⟩,?_,?_⟩,?_,⟨PySem.W.mg_of KX G ?_,⟨?_,?_,?_,?_⟩,?_,?_⟩,?_,⟨PySem.W.mg_of KX G ?_,⟨?_,?_,?_,?_⟩,?_,?_⟩,?_,?_,⟨PySem.W.mg_of KX G ?_,⟨?_,?_,?_,?_⟩,?_,?_⟩,?_,PySem.W.mg_of KX G ?_,PySem.W.mg_of KX G ?_,⟨?_,?_,?_,?_⟩,⟨?_,?_,?_,?_⟩,⟨?_,?_,?_,?_⟩,⟨?_,?_,?_,?_⟩,⟨?_,?_,?_,?_⟩,⟨?_,?_,?_,?_⟩,?rkb_Book,?rkb_Of,?rkb_Joined,?rkb_Met,?rkb_Less,?rkb_Turned,⟨?_,?_,?_,?_⟩,?rkr_Row,?rkt_Book_Of,?rkt_Book_Joined,?rkt_Book_Met,?rkt_Book_Less,?rkt_Book_Turned,?rkt_Of_Of,?rkt_Of_Joined,?rkt_Of_Met,?rkt_Of_Less,?rkt_Of_Turned,?rkt_Joined_Of,?rkt_Joined_Joined,?rkt_Joined_Met,?rkt_Joined_Less,?rkt_Joined_Turned,?rkt_Met_Of,?rkt_Met_Joined,?rkt_Met_Met,?rkt_Met_Less,?rkt_Met_Turned,?rkt_Less_Of,?rkt_Less_Joined,?rkt_Less_Met,?rkt_Less_Less,?rkt_Less_Turned,?rkt_Turned_Of,?rkt_Turned_Joined,?rkt_Turned_Met,?rkt_Turned_Less,?rkt_Turned_Turned,(Xw ?_ ?_ ?u2_Row ?u3_Row ?u4_Row),PySem.W.mg_of KX G ?_,K61.q_MONTH_LASTS ?_,PySem.W.mg_of KX G ?_,PySem.W.mg_of KX G ?_,PySem.W.mg_of KX G ?_,PySem.W.mg_of KX G ?_,PySem.W.mg_of KX G ?_,K61.mg_tx (x:="0123456789") KX G (by decide +kernel) ?_,PySem.W.mg_of KX G ?_,PySem.W.mg_of KX G ?_,PySem.W.mg_of KX G ?_,PySem.W.mg_of KX G ?_,PySem.W.mg_of KX G ?_,PySem.W.mg_of KX G ?_,PySem.W.mg_of KX G ?_,PySem.W.mg_of KX G ?_,PySem.W.mg_of KX G ?_,PySem.W.mg_of KX G ?_,PySem.W.mg_of KX G ?_,PySem.W.mg_of KX G ?_,PySem.W.mg_of KX G ?_,PySem.W.mg_of KX G ?_,PySem.W.mg_of KX G ?_,PySem.W.mg_of KX G ?_,PySem.W.mg_of KX G ?_,PySem.W.mg_of KX G ?_,PySem.W.mg_of KX G ?_,K61.q_BOUNDS ?_,K61.q_BOUNDS_0 ?_,K61.q_BOUNDS_1 ?_,K61.q_BOUNDS_3 ?_,PySem.W.mg_of KX G ?_,PySem.W.mg_of KX G ?_,PySem.W.mg_of KX G ?_,PySem.W.mg_of KX G ?_,PySem.W.mg_of KX G ?_,PySem.W.mg_of KX G ?_,O8 KX G ?_ ?_ ?_ ?_,PySem.W.mg_none_of KX G ?_,PySem.W.mg_none_of KX G ?_,PySem.W.mg_none_of KX G ?_,PySem.W.mg_none_of KX G ?_,PySem.W.mg_none_of KX G ?_,PySem.W.mg_none_of KX G ?_,PySem.W.mg_none_of KX G ?_,PySem.W.mg_none_of KX G ?_,PySem.W.mg_none_of KX G ?_,PySem.W.mg_none_of KX G ?_,PySem.W.mg_none_of KX G ?_,PySem.W.mg_none_of KX G ?_,PySem.W.mg_none_of KX G ?_,PySem.W.mg_none_of KX G ?_,PySem.W.mg_none_of KX G ?_,fB KX G ?_ ?_ ?_ ?_ ?_,fB KX G ?_ ?_ ?_ ?_ ?_,fB KX G ?_ ?_ ?_ ?_ ?_,fB KX G ?_ ?_ ?_ ?_ ?_,fB KX G ?_ ?_ ?_ ?_ ?_,fB KX G ?_ ?_ ?_ ?_ ?_,fB KX G ?_ ?_ ?_ ?_ ?_,fB KX G ?_ ?_ ?_ ?_ ?_,fB KX G ?_ ?_ ?_ ?_ ?_,fB KX G ?_ ?_ ?_ ?_ ?_,fB KX G ?_ ?_ ?_ ?_ ?_,fB KX G ?_ ?_ ?_ ?_ ?_,fB KX G ?_ ?_ ?_ ?_ ?_,
   fB KX G ?_ ?_ ?_ ?_ ?_,fB KX G ?_ ?_ ?_ ?_ ?_,fB KX G ?_ ?_ ?_ ?_ ?_,fB KX G ?_ ?_ ?_ ?_ ?_,fB KX G ?_ ?_ ?_ ?_ ?_,fB KX G ?_ ?_ ?_ ?_ ?_,fB KX G ?_ ?_ ?_ ?_ ?_,fB KX G ?_ ?_ ?_ ?_ ?_,fB KX G ?_ ?_ ?_ ?_ ?_,fB KX G ?_ ?_ ?_ ?_ ?_,fB KX G ?_ ?_ ?_ ?_ ?_,fB KX G ?_ ?_ ?_ ?_ ?_,fB KX G ?_ ?_ ?_ ?_ ?_,fB KX G ?_ ?_ ?_ ?_ ?_,fB KX G ?_ ?_ ?_ ?_ ?_,gB ?_ ?_ ?_ ?_ ?_ ?_,gB ?_ ?_ ?_ ?_ ?_ ?_,gB ?_ ?_ ?_ ?_ ?_ ?_,K61.md_Last___init__ ?_ ?_ ?_ ?_ ?_ ?_,gB ?_ ?_ ?_ ?_ ?_ ?_,gB ?_ ?_ ?_ ?_ ?_ ?_,gB ?_ ?_ ?_ ?_ ?_ ?_,gB ?_ ?_ ?_ ?_ ?_ ?_,gB ?_ ?_ ?_ ?_ ?_ ?_,gB ?_ ?_ ?_ ?_ ?_ ?_,gB ?_ ?_ ?_ ?_ ?_ ?_,gB ?_ ?_ ?_ ?_ ?_ ?_,gB ?_ ?_ ?_ ?_ ?_ ?_,gB ?_ ?_ ?_ ?_ ?_ ?_,fB KX G ?_ ?_ ?_ ?_ ?_,fB KX G ?_ ?_ ?_ ?_ ?_,fB KX G ?_ ?_ ?_ ?_ ?_,fB KX G ?_ ?_ ?_ ?_ ?_,fB KX G ?_ ?_ ?_ ?_ ?_,fB KX G ?_ ?_ ?_ ?_ ?_,fB KX G ?_ ?_ ?_ ?_ ?_,fB KX G ?_ ?_ ?_ ?_ ?_,fB KX G ?_ ?_ ?_ ?_ ?_,fB KX G ?_ ?_ ?_ ?_ ?_,gB ?_ ?_ ?_ ?_ ?_ ?_,gB ?_ ?_ ?_ ?_ ?_ ?_,fB KX G ?_ ?_ ?_ ?_ ?_,fB KX G ?_ ?_ ?_ ?_ ?_,fB KX G ?_ ?_ ?_ ?_ ?_,gB ?_ ?_ ?_ ?_ ?_ ?_,gB ?_ ?_ ?_ ?_ ?_ ?_,gB ?_ ?_ ?_ ?_ ?_ ?_,fB KX G ?_ ?_ ?_ ?_ ?_,fB KX G ?_ ?_ ?_ ?_ ?_,fB KX G ?_ ?_ ?_ ?_ ?_,fB KX G ?_ ?_ ?_ ?_ ?_,fB KX G ?_ ?_ ?_ ?_ ?_,fB KX G ?_ ?_ ?_ ?_ ?_,fB KX G ?_ ?_ ?_ ?_ ?_,fB KX G ?_ ?_ ?_ ?_ ?_,gB ?_ ?_ ?_ ?_ ?_ ?_,fB KX G ?_ ?_ ?_ ?_ ?_,fB KX G ?_ ?_ ?_ ?_ ?_,V3 KX G ?_ ?_ ?_ ?_ ?_,gB ?_ ?_ ?_ ?_ ?_ ?_,gB ?_ ?_ ?_ ?_ ?_ ?_,gB ?_ ?_ ?_ ?_ ?_ ?_,gB ?_ ?_ ?_ ?_ ?_ ?_,gB ?_ ?_ ?_ ?_ ?_ ?_,gB ?_ ?_ ?_ ?_ ?_ ?_,fB KX G ?_ ?_ ?_ ?_ ?_,gB ?_ ?_ ?_ ?_ ?_ ?_,gB ?_ ?_ ?_ ?_ ?_ ?_,gB ?_ ?_ ?_ ?_ ?_ ?_,gB ?_ ?_ ?_ ?_ ?_ ?_,gB ?_ ?_ ?_ ?_ ?_ ?_,gB ?_ ?_ ?_ ?_ ?_ ?_,fB KX G ?_ ?_ ?_ ?_ ?_,fB KX G ?_ ?_ ?_ ?_ ?_,fB KX G ?_ ?_ ?_ ?_ ?_,gB ?_ ?_ ?_ ?_ ?_ ?_,gB ?_ ?_ ?_ ?_ ?_ ?_,gB ?_ ?_ ?_ ?_ ?_ ?_,gB ?_ ?_ ?_ ?_ ?_ ?_,gB ?_ ?_ ?_ ?_ ?_ ?_,gB ?_ ?_ ?_ ?_ ?_ ?_,gB ?_ ?_ ?_ ?_ ?_ ?_,gB ?_ ?_ ?_ ?_ ?_ ?_,gB ?_ ?_ ?_ ?_ ?_ ?_,gB ?_ ?_ ?_ ?_ ?_ ?_,gB ?_ ?_ ?_ ?_ ?_ ?_,fB KX G ?_ ?_ ?_ ?_ ?_,fB KX G ?_ ?_ ?_ ?_ ?_,fB KX G ?_ ?_ ?_ ?_ ?_,fB KX G ?_ ?_ ?_ ?_ ?_,fB KX G ?_ ?_ ?_ ?_ ?_,fB KX G ?_ ?_ ?_ ?_ ?_,fB KX G ?_ ?_ ?_ ?_ ?_,fB KX G ?_ ?_ ?_ ?_ ?_,fB KX G ?_ ?_ ?_ ?_ ?_,fB KX G ?_ ?_ ?_ ?_ ?_,fB KX G ?_ ?_ ?_ ?_ ?_,fB KX G ?_ ?_ ?_ ?_ ?_,fB KX G ?_ ?_ ?_ ?_ ?_,fB KX G ?_ ?_ ?_ ?_ ?_,fB KX G ?_ ?_ ?_ ?_ ?_,fB KX G ?_ ?_ ?_ ?_ ?_,fB KX G ?_ ?_ ?_ ?_ ?_⟩ ?_ ?_ ?_ ?_
  (case rkb_Book=>kernel_rfl)
  (case rkb_Of=>kernel_rfl)
  (case rkb_Joined=>kernel_rfl)
  (case rkb_Met=>kernel_rfl)
  (case rkb_Less=>kernel_rfl)
  (case rkb_Turned=>kernel_rfl)
  (case rkr_Row=>kernel_rfl)
  (case rkt_Book_Of=>kernel_rfl)
  (case rkt_Book_Joined=>kernel_rfl)
  (case rkt_Book_Met=>kernel_rfl)
  (case rkt_Book_Less=>kernel_rfl)
  (case rkt_Book_Turned=>kernel_rfl)
  (case rkt_Of_Of=>kernel_rfl)
  (case rkt_Of_Joined=>kernel_rfl)
  (case rkt_Of_Met=>kernel_rfl)
  (case rkt_Of_Less=>kernel_rfl)
  (case rkt_Of_Turned=>kernel_rfl)
  (case rkt_Joined_Of=>kernel_rfl)
  (case rkt_Joined_Joined=>kernel_rfl)
  (case rkt_Joined_Met=>kernel_rfl)
  (case rkt_Joined_Less=>kernel_rfl)
  (case rkt_Joined_Turned=>kernel_rfl)
  (case rkt_Met_Of=>kernel_rfl)
  (case rkt_Met_Joined=>kernel_rfl)
  (case rkt_Met_Met=>kernel_rfl)
  (case rkt_Met_Less=>kernel_rfl)
  (case rkt_Met_Turned=>kernel_rfl)
  (case rkt_Less_Of=>kernel_rfl)
  (case rkt_Less_Joined=>kernel_rfl)
  (case rkt_Less_Met=>kernel_rfl)
  (case rkt_Less_Less=>kernel_rfl)
  (case rkt_Less_Turned=>kernel_rfl)
  (case rkt_Turned_Of=>kernel_rfl)
  (case rkt_Turned_Joined=>kernel_rfl)
  (case rkt_Turned_Met=>kernel_rfl)
  (case rkt_Turned_Less=>kernel_rfl)
  (case rkt_Turned_Turned=>kernel_rfl)
  (case u2_Row=>kernel_rfl)
  (case u3_Row=>kernel_rfl)
  (case u4_Row=>kernel_rfl)
  all_goals try (intro _ _ _ _ _ _ us hl;first | (obtain⟨_,rfl⟩:=Ii hl;rfl) | (obtain⟨_,_,rfl⟩:=GY hl;rfl) | (obtain⟨_,_,_,rfl⟩:=GZ hl;rfl) | (obtain⟨_,_,_,_,rfl⟩:=vR hl;rfl))
  all_goals try decide
  all_goals try (as_aux_lemma=>k_is)
  all_goals try decide
