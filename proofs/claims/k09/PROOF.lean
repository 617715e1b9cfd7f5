import PyProof.Rows.All
import Wide.All
import OpenK.AllK
import Wide.FinOn
import HandS.ForMost
import HandS.IsInst
import HandS.Wide
import HandS.Walk
import HandS.Flow
import HandS.AnyAll
import HandS.EndTab
import HandS.Deep
import HandS.Style
import HandS.Conv
import HandS.DictTup
import HandS.SortInts
import KE.DataCmp
import KE.SortData
import KE.BitLaws
import KE.DataFind
import PyProof.ReprRoads
import PyProof.Rows.ReprOcc
import HandS.FStr
import HandS.StrMore
import HandS.Exc
import HandS.ExcInit
import HandS.ExcIs
import HandS.ExcField
import HandS.WordsExc
import HandS.ExcValue
import HandS.SetFor
import HandS.RevRange
import HandS.GenList
import HandS.DictComp
import PyProof.SumAny
import HandS.Star
import HandS.WideBits
import KE.KeyNested
import KE.KDictKeyed
import HandS.Strs
import HandS.CallLocal
import HandS.More
import HandS.RaiseFrom
import HandS.SuiteRaise
import HandS.TryOnly
import HandS.Small
import HandS.ExcInitHot
import KE.GoesRaise
import KE.KExcIs
import PySem.Challenge.RW_packwants_k09_no_offer_at_every_door
set_option Elab.async false
set_option linter.all false
set_option maxRecDepth 100000
set_option maxHeartbeats 4000000
namespace Pk
open PySem PySem.Spec PyProof.Rows L2
def topS (i : Nat) : Stmt := PySem.Challenge.pw_packwants_k09_no_offer_at_every_door.main.body.getD i (.Pass ⟨0, 0, 0, 0⟩)
/-! ### heaps and plain data -/
theorem same_upd {H : Hp} {p : Addr} {o : HO} (h : H p = none) : Same H (upd H p o) := fun b x e => by
  rw [upd_ne (ne_of_none e h)]
  exact e
/-- all but a is as it was -/
def SameBut (a : Addr) (H H' : Hp) : Prop := ∀ b o, b ≠ a → H b = some o → H' b = some o
theorem SameBut.of {a : Addr} {H H' : Hp} (h : Same H H') : SameBut a H H' := fun b o _ e => h b o e
theorem SameBut.refl (a : Addr) (H : Hp) : SameBut a H H := fun _ _ _ e => e
theorem SameBut.trans {a : Addr} {H H1 H2 : Hp} (h : SameBut a H H1) (k : SameBut a H1 H2) : SameBut a H H2 := fun b o n e => k b o n (h b o n e)
theorem SameBut.upd {a : Addr} {H : Hp} {o : HO} : SameBut a H (upd H a o) := fun b x n e => by
  rw [upd_ne n]
  exact e
theorem SameBut.new {a p : Addr} {H H' : Hp} {o : HO} (h : SameBut a H H') (hp : H p = none) : SameBut a H (L2.upd H' p o) := fun b x n e => by
  rw [upd_ne (ne_of_none e hp)]
  exact h b x n e
/-- what was not there at the start may change -/
theorem sm_new {p : Addr} {H H' : Hp} {o : HO} (h : Same H H') (hp : H p = none) : Same H (L2.upd H' p o) := fun b x e => by
  rw [upd_ne (ne_of_none e hp)]
  exact h b x e
theorem SameBut.free {a p : Addr} {H H' : Hp} (h : SameBut a H H') (n : H' p = none) (ha : H' a ≠ none) : H p = none := by
  cases q : H p with
  | none => rfl
  | some o =>
    by_cases e : p = a
    · subst e
      exact absurd n ha
    · rw [h p o e q] at n
      cases n
/-- a list of ints -/
abbrev LI (ns : List Int) : HO := .lst (ns.map V.int)
theorem dpAll_ints {K : PySem.W.Frag} {H : Hp} : ∀ ns : List Int, DpAll K H (ns.map V.int) (ns.map PyData.int)
  | [] => .nil
  | n :: r => .cons (.int n) (dpAll_ints r)
theorem dp_ints {K : PySem.W.Frag} {H : Hp} {a : Addr} {ns : List Int} (h : SqL K H a (ns.map V.int)) : Dp K H (.ref a) (.list (ns.map PyData.int)) := .lst h (dpAll_ints ns)
theorem lay_ints : ∀ ns : List Int, PyData.canLayAll0 (ns.map PyData.int) = true
  | [] => by simp [PyData.canLayAll0]
  | n :: r => by
    have ih := lay_ints r
    simp [PyData.canLayAll0, PyData.canLay0, ih]
theorem depth_ints : ∀ ns : List Int, PyData.depthAll (ns.map PyData.int) = 0
  | [] => by simp [PyData.depthAll]
  | n :: r => by
    have ih := depth_ints r
    simp [PyData.depthAll, PyData.depth, ih]
theorem shaped_ints (ns : List Int) : SeqAt.shaped (.list (ns.map PyData.int)) = true := by
  unfold SeqAt.shaped
  have h1 : PyData.canLay0 (.list (ns.map PyData.int)) = true := by
    simp only [PyData.canLay0]
    exact lay_ints ns
  have h2 : PyData.depth (.list (ns.map PyData.int)) ≤ 64 := by
    simp only [PyData.depth]
    rw [depth_ints]
    omega
  rw [h1, decide_eq_true h2]
  rfl
theorem eqvAll_ints : ∀ ns ms : List Int, PyData.eqvAll (ns.map PyData.int) (ms.map PyData.int) = decide (ns = ms)
  | [], [] => by simp [PyData.eqvAll]
  | [], _ :: _ => by simp [PyData.eqvAll]
  | _ :: _, [] => by simp [PyData.eqvAll]
  | n :: r, m :: q => by
    have ih := eqvAll_ints r q
    simp only [List.map_cons, PyData.eqvAll, PyData.eqv, ih]
    by_cases h1 : n = m <;> by_cases h2 : r = q <;> simp [h1, h2]
theorem eqv_ints (ns ms : List Int) : PyData.eqv (.list (ns.map PyData.int)) (.list (ms.map PyData.int)) = decide (ns = ms) := by
  simp only [PyData.eqv]
  exact eqvAll_ints ns ms
theorem li_app (ls : List Int) (n : Int) : HO.lst (ls.map V.int ++ [.int n]) = LI (ls ++ [n]) := by
  show _ = HO.lst ((ls ++ [n]).map V.int)
  rw [List.map_append]
  rfl
theorem li_set (ls : List Int) (j : Nat) (n : Int) : HO.lst ((ls.map V.int).set j (.int n)) = LI (ls.set j n) := by
  show _ = HO.lst ((ls.set j n).map V.int)
  rw [List.map_set]
theorem at_app {H : Hp} {a : Addr} {ls : List Int} {n : Int} : upd H a (.lst (ls.map V.int ++ [.int n])) a = some (LI (ls ++ [n])) := by rw [upd_same, li_app]
theorem at_set {H : Hp} {a : Addr} {ls : List Int} {j : Nat} {n : Int} : upd H a (.lst ((ls.map V.int).set j (.int n))) a = some (LI (ls.set j n)) := by rw [upd_same, li_set]
theorem szL {n : Nat} (h : n ≤ 100000) : n ≤ sizeLine := Nat.le_trans h (by decide)
theorem szL' {n : Nat} (h : n ≤ 100000) : n < sizeLine := Nat.lt_of_le_of_lt h (by decide)
theorem get_ints {ns : List Int} {i : Nat} {n : Int} (h : ns[i]? = some n) : (ns.map V.int)[i]? = some (.int n) := by
  rw [List.getElem?_map, h]
  rfl
theorem getD_ints {ns : List Int} {i : Nat} (h : i < ns.length) : (ns.map V.int)[i]? = some (.int ns[i]) := get_ints (List.getElem?_eq_getElem h)
theorem of_get_ints {ns : List Int} {i : Nat} {v : V} (h : (ns.map V.int)[i]? = some v) : ∃ n, ns[i]? = some n ∧ v = .int n := by
  rw [List.getElem?_map] at h
  cases e : ns[i]? with
  | none => rw [e] at h; cases h
  | some n => rw [e] at h; exact ⟨n, rfl, (Option.some.inj h).symm⟩
/-- i % n as a place -/
theorem mod_at {i : Int} {n : Nat} (h : 0 < n) : ∃ j : Nat, j < n ∧ i % (n : Int) = (j : Int) := by
  have h1 : 0 ≤ i % (n : Int) := Int.emod_nonneg i (by omega)
  have h2 : i % (n : Int) < (n : Int) := Int.emod_lt_of_pos i (by omega)
  exact ⟨(i % (n : Int)).toNat, by omega, by omega⟩
theorem ixN_nat {n j : Nat} (h : j < n) : ixN n (j : Int) = some j := by
  unfold ixN
  rw [if_pos (by omega), if_pos (by omega), Int.toNat_natCast]
theorem take_succ_at {α : Type} {l : List α} {i : Nat} {x : α} (h : l[i]? = some x) : l.take (i + 1) = l.take i ++ [x] := by
  rw [List.take_add_one, h]
  rfl
/-- a def of the top: where it stands -/
structure Def (K : PySem.W.Frag) (mg : Str → Option Value) (x : Str) (st : Stmt) (ps : List Str) (f : Addr) (fd : FuncData) : Prop where
  F : Fun K x x st f fd
  g : mg x = some (.ref f)
  b : Binds K fd ps []
/-! ### rules at a written K (for a comprehension's block) -/
section
variable {X : Cx} {K : PySem.W.Frag}
theorem ix_listK (h : X.K = K) : IxR X (rIxL K) := by subst h; exact ix_list
theorem ix_tupK (h : X.K = K) : IxR X (rIxT K) := by subst h; exact ix_tup
theorem call_len_seqK (h : X.K = K) : CallR X (.builtin "len") (fun xs H Q => ∃ p ys, xs = [.ref p] ∧ (SqL K H p ys ∨ SqT K H p ys) ∧ Q (.int ys.length) H) := by subst h; exact call_len_seq
theorem op_eqDK (h : X.K = K) (hu : X.A.units + 64 < cLine) : OpR X (compareOp .Eq) (rEqD K) := by subst h; exact op_eqD hu
theorem op_neDK (h : X.K = K) (hu : X.A.units + 64 < cLine) : OpR X (compareOp .NotEq) (rNeD K) := by subst h; exact op_neD hu
theorem cr_maxK (h : X.K = K) (hc : X.calm = true) : CallR X (.builtin "max") (rMax K) := by subst h; exact cr_max hc
theorem cr_sumK (h : X.K = K) (hc : X.calm = true) : CallR X (.builtin "sum") (rSum K) := by subst h; exact cr_sum hc
theorem call_list_ofK (h : X.K = K) : CallR X (.type "list") (fun xs H Q => ∃ p ys, xs = [.ref p] ∧ (SqL K H p ys ∨ SqT K H p ys) ∧ ∀ l, H l = none → Q (.ref l) (upd H l (.lst ys))) := by subst h; exact call_list_of
theorem pi_listK {tg l : Expr} {tl : TE} (h : X.K = K) (hl : PE X l tl) : PI X tg l (iList K tl) := by subst h; exact pi_list hl
theorem pi_tupK {tg l : Expr} {tl : TE} (h : X.K = K) (hl : PE X l tl) : PI X tg l (iTup K tl) := by subst h; exact pi_tup hl
theorem pg_tupK {es : List Expr} {k : Nat} {t : TGs} {n : Nat} {pos : Pos} (hK : X.K = K) (hc : X.calm = true) (h : PGs X es t)
    (hn : (assignEach es X.env).length = n := by rfl) (hst : (assignEach es X.env).findIdx? (·.1) = none := by rfl) : PG X (.Tuple es k pos) (gTup K n t) := by subst hK; exact pg_tup hc h hn hst
end
/-! ### a statement whose ends are joined by what holds behind it -/
def tCutI (t u : TS) : TS := fun D σ H => ∃ I : L2.St → Hp → Prop, t { D with nx := I } σ H ∧ ∀ σ' H', I σ' H' → u D σ' H'
theorem pss_cutI {X : Cx} {st : Stmt} {rest : List Stmt} {t u : TS} (h1 : PS X st t) (h2 : PSs X rest u) : PSs X (st :: rest) (tCutI t u) := by
  refine ⟨fun pins s σ H D I h => ?_⟩
  obtain ⟨J, h, hJ⟩ := h
  refine wpAny_execs_cons (thn (h1.run pins s σ H { D with nx := J } I h) fun f s1 q => ?_)
  cases f with
  | next =>
    obtain ⟨σ', H', I', q⟩ := q
    exact h2.run pins s1 σ' H' D I' (hJ σ' H' q)
  | ret v => exact q
  | brk => exact q
  | cont => exact q
/-- data: lists of lists of ints -/
abbrev dRows (rs : List (List Int)) : PyData := .list (rs.map fun r => .list (r.map PyData.int))
theorem lay_rows : ∀ rs : List (List Int), PyData.canLayAll0 (rs.map fun r => .list (r.map PyData.int)) = true
  | [] => by simp [PyData.canLayAll0]
  | r :: q => by
    have ih := lay_rows q
    have h1 := lay_ints r
    simp [PyData.canLayAll0, PyData.canLay0, ih, h1]
theorem depth_rows : ∀ rs : List (List Int), PyData.depthAll (rs.map fun r => .list (r.map PyData.int)) ≤ 1
  | [] => by simp [PyData.depthAll]
  | r :: q => by
    have ih := depth_rows q
    have h1 := depth_ints r
    simp only [List.map_cons, PyData.depthAll, PyData.depth]
    omega
theorem shaped_rows (rs : List (List Int)) : SeqAt.shaped (dRows rs) = true := by
  unfold SeqAt.shaped
  have h1 : PyData.canLay0 (dRows rs) = true := by
    simp only [PyData.canLay0]
    exact lay_rows rs
  have h2 : PyData.depth (dRows rs) ≤ 64 := by
    have := depth_rows rs
    simp only [PyData.depth]
    omega
  rw [h1, decide_eq_true h2]
  rfl
theorem eqv_self {d : PyData} (h : SeqAt.shaped d = true) : PyData.eqv d d = true := SeqAt.eqv_refl d (SeqAt.canLay_of_shaped h)
/-- the built-in names that the top leaves alone, and its constants -/
structure Names (mg : Str → Option Value) : Prop where
  len : mg "len" = none
  range : mg "range" = none
  max : mg "max" = none
  list : mg "list" = none
  isinstance : mg "isinstance" = none
  int : mg "int" = none
  bool : mg "bool" = none
  enumerate : mg "enumerate" = none
  all : mg "all" = none
  zip : mg "zip" = none
  reversed : mg "reversed" = none
  sum : mg "sum" = none
  c_MOST_TIERS : ∃ t, mg "MOST_TIERS" = some (.int 4 t)
  c_MOST_PIECES : ∃ t, mg "MOST_PIECES" = some (.int 12 t)
/-! ### generator expressions whose element is quiet: the def's code table may grow, all else stands -/
/-- what is no bare record is not the table -/
theorem tab_ne {X : Cx} {pins : List (Addr × Obj)} {σ : L2.St} {H1 : Hp} {s1 : Shared} {P : Addr} (I : Inv X pins σ H1 s1) (h : GxR.TabG H1 P) {b : Addr} {o : Obj} (e : s1.heap.get? b = some o) (c : o.cls ≠ .none ∨ ∀ vs, o.data ≠ .fields vs) : b ≠ P := by
  rintro rfl
  obtain ⟨ps, isTab, _⟩ := h
  have q : s1.heap.get? b = some { cls := .none, data := .fields ps } := I.hok b _ isTab
  cases q.symm.trans e
  exact c.elim (fun z => z rfl) (fun z => z _ rfl)
/-- from h2 to h3 the table at P has grown by some entries, and all else stands -/
structure Longer (P : Addr) (h2 h3 : Heap) (ps more : Array Value) : Prop where
  rest : Heap.ExtBut P h2 h3
  size : h2.objs.size ≤ h3.objs.size
  table : h3.get? P = some { cls := .none, data := .fields (ps ++ more) }
  good : TriplesOk (ps ++ more).toList
/-- the expression's own scope: the walked thing at «.0», its names, and captured ones that are cells of the def; for two names -/
structure GenS2 (sc scope : Scope) (xa xb : Str) : Prop where
  kind : scope.kind = .function
  co : scope.isCoroutine = false
  cell : ∀ y ∈ scope.names, y.2 ≠ .cell
  dot : scope.names.lookup (".0" : Str) = some NameKind.local
  la : scope.names.lookup xa = some .local
  lb : scope.names.lookup xb = some .local
  ne : xa ≠ xb
  free : ∀ y ∈ scope.names, y.2 = .free → sc.names.lookup y.1 = some .cell
/-- for one -/
structure GenS1 (sc scope : Scope) (x : Str) : Prop where
  kind : scope.kind = .function
  co : scope.isCoroutine = false
  cell : ∀ y ∈ scope.names, y.2 ≠ .cell
  dot : scope.names.lookup (".0" : Str) = some NameKind.local
  la : scope.names.lookup x = some .local
  free : ∀ y ∈ scope.names, y.2 = .free → sc.names.lookup y.1 = some .cell
/-- what is said of the thing that is walked: it was made in s1, and stands in t -/
structure Walkee (X : Cx) (pins : List (Addr × Obj)) (σ : L2.St) (H1 : Hp) (P : Addr) (fp wr : List Addr) (s1 t : Shared) : Prop where
  inv : Inv X pins σ H1 s1
  tab : GxR.TabG H1 P
  same : ∃ h n, t = { s1 with heap := h, toks := n }
  keep : ∀ b o, s1.heap.get? b = some o → t.heap.get? b = some o
  size : s1.heap.objs.size ≤ t.heap.objs.size
  low : ∀ b ∈ fp, b < t.heap.objs.size ∧ b ≠ P
  new : ∀ b ∈ wr, s1.heap.objs.size ≤ b
/-- the generator g, ready to be walked, in the state s5; F: what each turn hands out -/
def Walked (X : Cx) (pins : List (Addr × Obj)) (σ : L2.St) (H1 : Hp) (P : Addr) (n : Nat) (F : Nat → Value → Prop) (g : Addr) (s5 : Shared) : Prop :=
  ∃ (fp wr : List Addr) (G : Array GenState → Array GenState → Prop) (F' : Nat → Value → Prop) (St : Nat → Shared → Prop),
    WalksS X.prog X.w X.A.in1 g fp wr G n F' St ∧ St 0 s5 ∧ (∀ b ∈ fp, b < s5.heap.objs.size) ∧ (∀ i v, F' i v → F i v) ∧ ∀ s', Moved wr G s5 s' → ∃ H2, GxR.Tabbed P H1 H2 ∧ Inv X pins σ H2 s'
/-- what the element may lean on: the frame cenv, the depth, and a heap in which all that stood in s1 stands but for the table -/
structure Turned (X : Cx) (P : Addr) (sc : Scope) (s1 : Shared) (cenv : Env) (A' : Around) (u : Shared) : Prop where
  own : cenv.scope = sc
  cells : cenv.cells = cloFrom X.env.cells sc.names []
  glob : cenv.globals = mainGlobals
  blt : cenv.builtins = builtinsNs
  calm : A'.handled = none
  deep : A'.depth ≤ X.A.depth + 1
  units : A'.units ≤ X.A.units + 8
  still : ∀ b o, b ≠ P → s1.heap.get? b = some o → u.heap.get? b = some o
section
variable {X : Cx} {pins : List (Addr × Obj)} {σ : L2.St} {H1 : Hp} {s1 t : Shared} {c P : Addr} {fp wr : List Addr} {h2 h3 : Heap} {ps more : Array Value}
/-- the code of the expression is looked up, or laid: then the table is longer -/
theorem tab_opens {gpos : Pos} {q : Str} {scope : Scope} {t2 : Nat} {R : Value → Addr → Shared → Prop} (TB : GxR.TabB X.base X.mg c P) (code : X.env.code = .ref c) (I : Inv X pins σ H1 s1) (isTab : H1 P = some (.tbl ps)) (good : TriplesOk ps.toList)
    (keep : ∀ b o, s1.heap.get? b = some o → h2.get? b = some o) (h : ∀ cv h3 n more, Longer P h2 h3 ps more → R cv builtinsNs { s1 with heap := h3, toks := n }) :
    wpAny (model X.prog X.w) X.A (genexprCode X.env gpos q scope) (fun cv t => wpAny (model X.prog X.w) X.A (builtinsFor X.env.globals X.env.builtins) (fun bi u => R cv bi u) X.xe t) X.xe { s1 with heap := h2, toks := t2 } := by
  have table : h2.get? P = some { cls := .none, data := .fields ps } := keep P _ (I.hok P _ isTab)
  have head : PySem.W.CodeHd h2 c P := TB.code.keeps fun b o e => keep b o (I.bk b o e)
  have go : ∀ cv h3 n more, Longer P h2 h3 ps more → wpAny (model X.prog X.w) X.A (builtinsFor X.env.globals X.env.builtins) (fun bi u => R cv bi u) X.xe { s1 with heap := h3, toks := n } := by
    intro cv h3 n more L
    obtain ⟨at_, ob, given, away, _, notTab, inBase, cls, dict, plain⟩ := TB.bm
    have globals : h3.Ns X.env.globals X.mg := I.ok.glob ▸ ((I.mod.glob.keeps I.bk).keeps keep).extBut L.rest TB.gP
    exact wpAny_builtinsFor globals given away (L.rest _ _ notTab (keep _ _ (I.bk _ _ inBase))) cls dict plain (h cv h3 n more L)
  cases found : codeAmong gpos ps.toList
  · refine wpAny_genexprCodeX code (head.code table good) (head.tab table) found fun c' h' n rest below above isCode _ isTable _ => go _ h' n _ ⟨rest, Nat.le_trans below (Nat.le_of_lt above), isTable.2, ?_⟩
    obtain ⟨_, _, _, _, _, _, _, _, _, _, _, _, _, _, _, _, _, _, _, triples, _⟩ := isCode
    exact triples
  · refine wpAny_genexprCode_hit code (head.code table good) found (go _ h2 t2 #[] ⟨Heap.ExtBut.refl _ _, Nat.le_refl _, ?_, ?_⟩)
    · rw [Array.append_empty]
      exact table
    · rw [Array.append_empty]
      exact good
/-- when it has been walked: what was held is held, but for the longer table -/
theorem tab_closes {h5 : Heap} {n : Nat} {gs : GenState} {j : Nat} {wr' : List Addr} {s' : Shared} (I : Inv X pins σ H1 s1) (isTab : H1 P = some (.tbl ps)) (keep : ∀ b o, s1.heap.get? b = some o → h2.get? b = some o) (L : Longer P h2 h3 ps more)
    (bare : gs.bare = true) (on : ∀ b o, h3.get? b = some o → h5.get? b = some o) (new : ∀ b ∈ wr', s1.heap.objs.size ≤ b) (mv : Moved wr' (GenOnlyQ j) { s1 with heap := h5, gens := s1.gens.push gs, toks := n } s') : ∃ H2, GxR.Tabbed P H1 H2 ∧ Inv X pins σ H2 s' := by
  have old : ∀ {b o}, s1.heap.get? b = some o → b ∉ wr' := fun e z => Nat.lt_irrefl _ (Nat.lt_of_lt_of_le (Heap.lt_size e) (new _ z))
  have J := GxR.inv_tab (h' := s'.heap) (g' := s'.gens) (d' := s'.drawn) (t' := s'.toks) I isTab (fun b o far e => mv.heap b o (old e) (on b o (L.rest b o far (keep b o e)))) (mv.heap P _ (old (I.hok P _ isTab)) (on P _ L.table)) (AllBare.movedS (I.bare.push bare) mv)
  exact ⟨upd H1 P (.tbl (ps ++ more)), ⟨⟨_, upd_same, L.good⟩, fun _ far => upd_ne far⟩, (GxR.sh_eta s1 s' mv.os) ▸ J⟩
theorem Walkee.statics (K : Walkee X pins σ H1 P fp wr s1 t) : cStatics ≠ P ∧ cStatics ∉ wr := by
  obtain ⟨_, names, _⟩ := K.inv.nolimit
  constructor
  · rintro rfl
    obtain ⟨ps, isTab, _⟩ := K.tab
    obtain ⟨ob, _, _, there, isNs, _⟩ := names
    have q : s1.heap.get? cStatics = some { cls := .none, data := .fields ps } := K.inv.hok _ _ isTab
    cases q.symm.trans there
    cases isNs
  · exact fun z => Nat.lt_irrefl _ (Nat.lt_of_lt_of_le names.lt (K.new _ z))
/-- all that stood in s1 stands where an element is reckoned -/
theorem Walkee.turned {scope : Scope} {code : Value} {href : Heap} {A' : Around} {u : Shared} (K : Walkee X pins σ H1 P fp wr s1 t) (L : Longer P t.heap h3 ps more) (on : ∀ b o, h3.get? b = some o → href.get? b = some o) (calm : A'.handled = none) (deep : A'.depth ≤ X.A.depth + 1) (units : A'.units ≤ X.A.units + 8)
    (still : ∀ b ∈ List.range h3.objs.size, b ∉ wr → ∀ o, href.get? b = some o → u.heap.get? b = some o) : Turned X P scope s1 (genEnv scope (cloFrom X.env.cells scope.names []) h3.objs.size code builtinsNs X.env) A' u where
  own := rfl
  cells := rfl
  glob := K.inv.ok.glob
  blt := rfl
  calm := calm
  deep := deep
  units := units
  still := fun b o far e =>
    have e3 := L.rest b o far (K.keep b o e)
    still b (List.mem_range.mpr (Heap.lt_size e3)) (fun z => Nat.lt_irrefl _ (Nat.lt_of_lt_of_le (Heap.lt_size e) (K.new b z))) o (on b o e3)
/-- the made generator is ready -/
theorem Walkee.ready {n : Nat} {F : Nat → Value → Prop} {g : Addr} {h5 : Heap} {n3 n5 : Nat} {gs : GenState} {j : Nat} {wr' fp' : List Addr} {St : Nat → Shared → Prop} (K : Walkee X pins σ H1 P fp wr s1 t) (isTab : H1 P = some (.tbl ps)) (L : Longer P t.heap h3 ps more)
    (bare : gs.bare = true) (above : h3.objs.size < g) (size : h5.objs.size = g + 1) (on : ∀ b o, h3.get? b = some o → h5.get? b = some o) (hf : ∀ b ∈ fp', b = g ∨ b = h3.objs.size ∨ b < h3.objs.size) (hw : ∀ b ∈ wr', b = h3.objs.size ∨ b ∈ wr)
    (W : WalksS X.prog X.w X.A.in4 g fp' wr' (GenOnlyQ j) (passing (fun _ => true) n 0).length (fun j y => ∃ i, (passing (fun _ => true) n 0)[j]? = some i ∧ F i y) St) (st : St 0 { ({ s1 with heap := h3, toks := n3 } : Shared) with gens := s1.gens.push gs, toks := n5, heap := h5 }) :
    Walked X pins σ H1 P n F g { ({ s1 with heap := h3, toks := n3 } : Shared) with gens := s1.gens.push gs, toks := n5, heap := h5 } := by
  rw [GxR.passing_true, List.length_range] at W
  refine ⟨_, _, _, _, _, W.in4_1, st, fun b hb => ?_, fun j y hy => ?_, fun s' mv => tab_closes K.inv isTab K.keep L bare on (fun b hb => ?_) mv⟩
  · show b < h5.objs.size
    rw [size]
    rcases hf b hb with rfl | rfl | z
    · exact Nat.lt_succ_self _
    · exact Nat.lt_succ_of_lt above
    · exact Nat.lt_succ_of_lt (Nat.lt_trans z above)
  · obtain ⟨i, at_, q⟩ := hy
    obtain ⟨_, e⟩ := List.getElem?_eq_some_iff.mp at_
    rw [List.getElem_range] at e
    exact e ▸ q
  · rcases hw b hb with rfl | z
    · exact Nat.le_trans K.size L.size
    · exact K.new b z
end
section
variable {X : Cx} {pins : List (Addr × Obj)} {σ : L2.St} {H : Hp} {s : Shared} {c P : Addr} {k : Nat} {Q' : Value → Shared → Prop}
/-- (element for a, b in iter): what is walked hands out pairs; the element gives what F says -/
theorem gen_pairs {elt iter : Expr} {xa xb : Str} {pa pb pt gpos : Pos} {kt : Nat} {scope : Scope} (hr : Room k X.A) (TB : GxR.TabB X.base X.mg c P) (hcode : X.env.code = .ref c) (S : GenS2 X.env.scope scope xa xb) (hs : ∀ v, genFold iter X.env v = pure v) (I : Inv X pins σ H s)
    (h : wpAny (model X.prog X.w) X.A (eval iter X.env) (fun xv t => wpAny (model X.prog X.w) X.A (pyIter xv) (fun it t2 => ∃ (Iad : Addr) (fp wr : List Addr) (n : Nat) (Pt : Nat → Array Value → Prop) (St : Nat → Heap → Prop) (Mid : Nat → Addr → Heap → Prop) (F : Nat → Value → Prop) (q : List (Addr × Obj)) (σ1 : L2.St) (H1 : Hp) (s1 : Shared),
      it = .ref Iad ∧ Walkee X q σ1 H1 P fp wr s1 t2 ∧ (∀ A' : Around, A'.handled = none → WalksU X.prog X.w A' Iad fp wr n Pt St Mid) ∧ (∀ i vals, Pt i vals → ∃ va vb, vals = #[va, vb]) ∧ St 0 t2.heap ∧
      (∀ (cenv : Env) (A' : Around) (E' : Value → Shared → Prop) (i : Nat) (va vb : Value) (u : Shared) (m : Str → Option Value), Turned X P scope s1 cenv A' u → Pt i #[va, vb] → u.heap.Ns cenv.locals m → m xa = some va → m xb = some vb →
        wpAny (model X.prog X.w) A' (eval elt cenv) (fun y u' => F i y ∧ Keeps u u') E' u) ∧
      ∀ g s5, Walked X q σ1 H1 P n F g s5 → Q' (.ref g) s5) X.xe t) X.xe s) :
    wpAny (model X.prog X.w) X.A (eval (.GeneratorExp elt [⟨.Tuple [.Name xa pa, .Name xb pb] kt pt, iter, [], 0⟩] scope gpos) X.env) Q' X.xe s := by
  have room := hr.dp
  refine wpAny_GeneratorExp_walksQTD hr.hd S.co (closure_ok fun y hy e => I.ok.has y.1 (.inl (S.free y hy e))) S.cell S.dot S.la S.lb S.ne S.kind (by omega) (wpAny_mono h (fun xv t h => wpAny_mono h (fun it t2 h => ?_) fun _ _ e => e) fun _ _ e => e) hs
  obtain ⟨Iad, fp, wr, n, Pt, St, Mid, F, q, σ1, H1, s1, rfl, K, W, two, st, turn, out⟩ := h
  obtain ⟨ps, isTab, good⟩ := K.tab
  obtain ⟨h2, n2, rfl⟩ := K.same
  have lim : h2.NoLimit := K.inv.nolimit.keeps K.keep
  refine ⟨lim, tab_opens TB hcode K.inv isTab good K.keep fun cv h3 n3 more L => ⟨Iad, fp, wr, n, Pt, St, Mid, fun _ => true, F, rfl, W, two, (W X.A hr.hd).frame _ _ _ st fun b hb o e => L.rest b o (K.low b hb).2 e, fun b hb => Nat.lt_of_lt_of_le (K.low b hb).1 L.size, lim.extBut L.rest K.statics.1, K.statics.2, fun href on => ⟨?_, ?_⟩, ?_⟩⟩
  · intro A' E' i va vb u m _ _ _ _ _ _ _ _
    exact wpAny_pure ⟨rfl, GxR.keeps_refl _⟩
  · intro A' E' i va vb u m calm deep units at_ _ ns ma mb still
    exact turn _ A' E' i va vb u m (K.turned L on calm deep units still) at_ ns ma mb
  · intro g h5 n5 gs bare above size on W5 st5
    refine out g _ (K.ready isTab L bare above size on (fun b hb => ?_) (fun b hb => List.mem_cons.mp hb) W5 st5)
    exact (List.mem_cons.mp hb).imp_right fun z => (List.mem_cons.mp z).imp_right List.mem_range.mp
/-- (element for a in iter) -/
theorem gen_ones {elt iter : Expr} {x : Str} {px gpos : Pos} {scope : Scope} (hr : Room k X.A) (TB : GxR.TabB X.base X.mg c P) (hcode : X.env.code = .ref c) (S : GenS1 X.env.scope scope x) (hs : ∀ v, genFold iter X.env v = pure v) (I : Inv X pins σ H s)
    (h : wpAny (model X.prog X.w) X.A (eval iter X.env) (fun xv t => wpAny (model X.prog X.w) X.A (pyIter xv) (fun it t2 => ∃ (Iad : Addr) (fp wr : List Addr) (n : Nat) (Pt : Nat → Value → Prop) (St : Nat → Heap → Prop) (F : Nat → Value → Prop) (q : List (Addr × Obj)) (σ1 : L2.St) (H1 : Hp) (s1 : Shared),
      it = .ref Iad ∧ Walkee X q σ1 H1 P fp wr s1 t2 ∧ (∀ A' : Around, A'.handled = none → Walks X.prog X.w A' Iad fp wr n Pt St) ∧ St 0 t2.heap ∧
      (∀ (cenv : Env) (A' : Around) (E' : Value → Shared → Prop) (i : Nat) (va : Value) (u : Shared) (m : Str → Option Value), Turned X P scope s1 cenv A' u → Pt i va → u.heap.Ns cenv.locals m → m x = some va →
        wpAny (model X.prog X.w) A' (eval elt cenv) (fun y u' => F i y ∧ Keeps u u') E' u) ∧
      ∀ g s5, Walked X q σ1 H1 P n F g s5 → Q' (.ref g) s5) X.xe t) X.xe s) :
    wpAny (model X.prog X.w) X.A (eval (.GeneratorExp elt [⟨.Name x px, iter, [], 0⟩] scope gpos) X.env) Q' X.xe s := by
  have room := hr.dp
  refine wpAny_GeneratorExp_walksQD hr.hd S.co (closure_ok fun y hy e => I.ok.has y.1 (.inl (S.free y hy e))) S.cell S.dot S.la S.kind (by omega) (wpAny_mono h (fun xv t h => wpAny_mono h (fun it t2 h => ?_) fun _ _ e => e) fun _ _ e => e) hs
  obtain ⟨Iad, fp, wr, n, Pt, St, F, q, σ1, H1, s1, rfl, K, W, st, turn, out⟩ := h
  obtain ⟨ps, isTab, good⟩ := K.tab
  obtain ⟨h2, n2, rfl⟩ := K.same
  have lim : h2.NoLimit := K.inv.nolimit.keeps K.keep
  refine ⟨lim, tab_opens TB hcode K.inv isTab good K.keep fun cv h3 n3 more L => ⟨Iad, fp, wr, n, Pt, St, fun _ => true, F, rfl, W, (W X.A hr.hd).frame _ _ _ st fun b hb o e => L.rest b o (K.low b hb).2 e, fun b hb => Nat.lt_of_lt_of_le (K.low b hb).1 L.size, lim.extBut L.rest K.statics.1, K.statics.2, fun href on => ⟨?_, ?_⟩, ?_⟩⟩
  · intro A' E' i va u m _ _ _ _ _ _ _
    exact wpAny_pure ⟨rfl, GxR.keeps_refl _⟩
  · intro A' E' i va u m calm deep units at_ _ ns ma still
    exact turn _ A' E' i va u m (K.turned L on calm deep units still) at_ ns ma
  · intro g h5 n5 gs bare above size on W5 st5
    refine out g _ (K.ready isTab L bare above size on (fun b hb => ?_) (fun b hb => List.mem_cons.mp hb) W5 st5)
    exact (List.mem_cons.mp hb).imp_right fun z => (List.mem_cons.mp z).imp_right List.mem_range.mp
/-- a built-in function of a generator expression alone -/
theorem call_gen {b : Str} {f : String} {ge : Expr} {p pos : Pos} {R : Value → Shared → Prop} (hg : Gl X b) (hm : X.mg b = none) (hb : bootBuiltins b = some (.builtin f)) (he : starEach [ge] X.env = (false, eval ge X.env) :: starEach [] X.env) (I : Inv X pins σ H s)
    (h : wpAny (model X.prog X.w) X.A (eval ge X.env) (fun v t => wpAny (model X.prog X.w) X.A (call (.builtin f) [v]) R X.xe t) X.xe s) (hd : (b == ("__debug__" : Str)) = false := by decide) (hn : b ≠ "__name__" := by decide) :
    wpAny (model X.prog X.w) X.A (eval (.Call (.Name b p) [ge] [] pos) X.env) R X.xe s := by
  refine wpAny_Call_Name_kw (ld_blt I hg hm hb (PyProof.Rows.callWith_builtin1 ?_ he (by rfl)) hn hd)
  rw [he]
  exact Calls.spliced_cons (wpAny_mono h (fun v t h => Calls.spliced_nil h) fun _ _ e => e)
theorem truth_of {A : Around} {F' : Nat → Value → Prop} {pb : Nat → Bool} (h : ∀ i v, F' i v → v = .bool (pb i)) : TruthOf X.prog X.w A F' pb := by
  intro i v t Q E at_ q
  cases h i v at_
  exact wpAny_truthy_bool q
end
/-! ### all(test for a, b in enumerate(list)) -/
def tAllE (K : PySem.W.Frag) (P : Addr) (R : L2.St → Hp → List V → (Nat → Bool) → Prop) (te : TE) : TE := fun σ H Q => te σ H fun v H1 => ∃ (a : Addr) (xs : List V) (pb : Nat → Bool), v = .ref a ∧ SqL K H1 a xs ∧ GxR.TabG H1 P ∧ R σ H1 xs pb ∧
  ∀ H2, GxR.Tabbed P H1 H2 → Q (.bl ((List.range xs.length).all pb)) H2
/-- what the element is to do at one pair -/
def EltE (X : Cx) (P : Addr) (scope : Scope) (xa xb : Str) (elt : Expr) (R : L2.St → Hp → List V → (Nat → Bool) → Prop) : Prop :=
  ∀ (pins : List (Addr × Obj)) (σ : L2.St) (H1 : Hp) (s1 : Shared) (xs : List V) (pb : Nat → Bool), Inv X pins σ H1 s1 → GxR.TabG H1 P → R σ H1 xs pb →
    ∀ (cenv : Env) (A' : Around) (E' : Value → Shared → Prop) (i : Nat) (v : V) (va vb : Value) (s₂ : Shared) (m₂ : Str → Option Value), cenv.scope = scope → cenv.cells = cloFrom X.env.cells scope.names [] → cenv.globals = mainGlobals → cenv.builtins = builtinsNs →
      A'.handled = none → A'.depth ≤ X.A.depth + 1 → A'.units ≤ X.A.units + 8 → xs[i]? = some v → (∃ t, va = .int (i : Nat) t) → RelV v vb → s₂.heap.Ns cenv.locals m₂ → m₂ xa = some va → m₂ xb = some vb → (∀ b o, b ≠ P → s1.heap.get? b = some o → s₂.heap.get? b = some o) →
      wpAny (model X.prog X.w) A' (eval elt cenv) (fun y s₃ => y = .bool (pb i) ∧ Keeps s₂ s₃) E' s₂
section
variable {X : Cx}
theorem pe_allEnum {c P : Addr} {elt e : Expr} {xa xb : Str} {pa pb' pt p pos gpos epos ep : Pos} {kt : Nat} {scope : Scope} {te : TE} {k : Nat} {R : L2.St → Hp → List V → (Nat → Bool) → Prop}
    (hr : Room k X.A) (hg : Gl X "all") (hm : X.mg "all" = none) (hb : bootBuiltins "all" = some (.builtin "all")) (hge : Gl X "enumerate") (hme : X.mg "enumerate" = none) (TB : GxR.TabB X.base X.mg c P) (hcode : X.env.code = .ref c) (S : GenS2 X.env.scope scope xa xb) (hi : PE X e te)
    (hel : EltE X P scope xa xb elt R)
    (hs : ∀ v, genFold (.Call (.Name "enumerate" ep) [e] [] epos) X.env v = pure v := by intro _; rfl)
    (hs1 : starEach [e] X.env = [(false, eval e X.env)] := by rfl)
    (he : starEach [.GeneratorExp elt [⟨.Tuple [.Name xa pa, .Name xb pb'] kt pt, .Call (.Name "enumerate" ep) [e] [] epos, [], 0⟩] scope gpos] X.env = (false, eval (.GeneratorExp elt [⟨.Tuple [.Name xa pa, .Name xb pb'] kt pt, .Call (.Name "enumerate" ep) [e] [] epos, [], 0⟩] scope gpos) X.env) :: starEach [] X.env := by rfl) :
    PE X (.Call (.Name "all" p) [.GeneratorExp elt [⟨.Tuple [.Name xa pa, .Name xb pb'] kt pt, .Call (.Name "enumerate" ep) [e] [] epos, [], 0⟩] scope gpos] [] pos) (tAllE X.K P R te) := by
  refine ⟨fun pins s σ H Q I h => call_gen hg hm hb he I (gen_pairs hr TB hcode S hs I (Call_ (ld_blt I hge hme boot_enumerate (PyProof.Rows.callWith_type1 ?_ hs1 rfl))))⟩
  rw [hs1]
  refine Calls.spliced_cons (thn (hi.run pins s σ H _ I h) fun u0 s1 r => Calls.spliced_nil ?_)
  obtain ⟨_, H1, J, isRef, a, xs, pb, rfl, sq, tab, hR, q⟩ := r
  cases isRef
  obtain ⟨its, rv, at_, _⟩ := J.list sq
  refine call_enumerate_list at_.isList fun h' isEn isIt size keep => wpAny_pyIter_enum isEn ?_
  have la : a < s1.heap.objs.size := at_.lt
  have below : s1.heap.objs.size < h'.objs.size := isIt.elim fun _ x => Heap.lt_size x.1
  obtain ⟨oa, ea, ca, _⟩ := id at_.isList
  have aP : a ≠ P := tab_ne J tab ea (.inl fun z => by rw [ca] at z; cases z)
  have lP : P < s1.heap.objs.size := tab.elim fun _ x => Heap.lt_size (show s1.heap.get? P = _ from J.hok P _ x.1)
  have W := fun (A' : Around) (calm : A'.handled = none) => (WalksT.enumerate (prog := X.prog) (w := X.w) calm (s1.heap.objs.size + 1) s1.heap.objs.size a (Nat.succ_ne_self _) (Nat.ne_of_lt (Nat.lt_succ_of_lt la)) (Nat.ne_of_lt la) its.toArray).toU
  refine ⟨_, _, _, _, _, _, _, fun i y => y = .bool (pb i), pins, σ, H1, s1, rfl, ⟨J, tab, ⟨_, _, rfl⟩, keep, Nat.le_of_lt below, fun b hb => ?_, fun b hb => ?_⟩, W, fun i vals x => ?_, ⟨⟨_, isEn⟩, isIt, at_.isList.at fun o x => keep a o x⟩, ?_, ?_⟩
  · simp only [List.mem_cons, List.not_mem_nil, or_false] at hb
    rcases hb with rfl | rfl | rfl
    · exact ⟨Heap.lt_size isEn, Nat.ne_of_gt (Nat.lt_succ_of_lt lP)⟩
    · exact ⟨below, Nat.ne_of_gt lP⟩
    · exact ⟨Nat.lt_trans la below, aP⟩
  · simp only [List.mem_cons, List.not_mem_nil, or_false] at hb
    rcases hb with rfl | rfl
    · exact Nat.le_succ _
    · exact Nat.le_refl _
  · exact x.elim fun _ x => x.elim fun _ x => ⟨_, _, x.2⟩
  · intro cenv A' E' i va vb u m T at_ ns ma mb
    obtain ⟨t, x, hx, e'⟩ := at_
    obtain ⟨rfl, rfl⟩ : va = .int i t ∧ vb = x := by simpa using congrArg Array.toList e'
    have there : its[i]? = some vb := by simpa using hx
    obtain ⟨v, hv⟩ : ∃ v, xs[i]? = some v := ⟨_, List.getElem?_eq_getElem (rv.length.symm ▸ (List.getElem?_eq_some_iff.mp there).1)⟩
    obtain ⟨w, hw, rw_⟩ := rv.get hv
    cases there.symm.trans hw
    exact hel pins σ H1 s1 xs pb J tab hR cenv A' E' i v _ _ u m T.own T.cells T.glob T.blt T.calm T.deep T.units hv ⟨t, rfl⟩ rw_ ns ma mb T.still
  · rintro g s5 ⟨fp, wr, G, F', St, W, st, _, say, held⟩
    refine call_all_walkS (W.self 0 _ _ _ st ⟨g, fp, wr, G, _, F', St, pb, rfl, W, st, truth_of say, fun s' mv => ?_⟩)
    obtain ⟨H2, grown, J2⟩ := held s' mv
    refine ⟨.bl _, H2, J2, rfl, ?_⟩
    rw [List.size_toArray, ← rv.length]
    exact q H2 grown
end
/-! ### (element for a, b in zip(list, list)), both lists of ints -/
section
variable {X : Cx} {pins : List (Addr × Obj)} {σ : L2.St} {H : Hp} {s : Shared}
theorem gen_zip {c P : Addr} {elt e1 e2 : Expr} {xa xb : Str} {pa pb pt gpos epos ep : Pos} {kt k : Nat} {scope : Scope} {t1 t2 : TE} {C : List Int → List Int → Hp → Prop} {F : List Int → List Int → Nat → Value → Prop} {Q' : Value → Shared → Prop}
    (hr : Room k X.A) (hge : Gl X "zip") (hme : X.mg "zip" = none) (TB : GxR.TabB X.base X.mg c P) (hcode : X.env.code = .ref c) (S : GenS2 X.env.scope scope xa xb) (h1 : PE X e1 t1) (h2 : PE X e2 t2)
    (hs : ∀ v, genFold (.Call (.Name "zip" ep) [e1, e2] [] epos) X.env v = pure v) (hs1 : starEach [e1, e2] X.env = (false, eval e1 X.env) :: starEach [e2] X.env) (hs2 : starEach [e2] X.env = (false, eval e2 X.env) :: starEach [] X.env)
    (hpl : (backTo epos (starEach [e2] X.env)).any (·.1) = false) (hem : starEach [] X.env = []) (I : Inv X pins σ H s)
    (h : t1 σ H fun v H1 => t2 σ H1 fun u H2 => ∃ (a b : Addr) (ns ms : List Int), v = .ref a ∧ u = .ref b ∧ SqL X.K H2 a (ns.map V.int) ∧ SqL X.K H2 b (ms.map V.int) ∧ GxR.TabG H2 P ∧ C ns ms H2)
    (turn : ∀ ns ms H2, C ns ms H2 → ∀ (cenv : Env) (A' : Around) (E' : Value → Shared → Prop) (i : Nat) (u : Shared) (m : Str → Option Value) (li : i < ns.length) (lj : i < ms.length) (t t' : Tok), cenv.scope = scope → u.heap.Ns cenv.locals m → m xa = some (.int ns[i] t) → m xb = some (.int ms[i] t') →
      wpAny (model X.prog X.w) A' (eval elt cenv) (fun y u' => F ns ms i y ∧ Keeps u u') E' u)
    (out : ∀ ns ms H2 g s5, C ns ms H2 → Walked X pins σ H2 P (min ns.length ms.length) (F ns ms) g s5 → Q' (.ref g) s5) :
    wpAny (model X.prog X.w) X.A (eval (.GeneratorExp elt [⟨.Tuple [.Name xa pa, .Name xb pb] kt pt, .Call (.Name "zip" ep) [e1, e2] [] epos, [], 0⟩] scope gpos) X.env) Q' X.xe s := by
  refine gen_pairs hr TB hcode S hs I (Call_ (ld_blt I hge hme PyProof.Rows.boot_zip (PyProof.Rows.callWith_type1 ?_ hs1 hpl)))
  rw [hs1, hs2, hem]
  refine Calls.spliced_cons (thn (h1.run pins s σ H _ I h) fun u0 s0 r0 => ?_)
  obtain ⟨v0, H0, J0, isA, q0⟩ := r0
  refine Calls.spliced_cons (thn (h2.run pins s0 σ H0 _ J0 q0) fun u1 s1 r1 => Calls.spliced_nil ?_)
  obtain ⟨v1, H1, J, isB, a, b, ns, ms, rfl, rfl, sqa, sqb, tab, hC⟩ := r1
  cases isA
  cases isB
  obtain ⟨its, rv, atA, _⟩ := J.list sqa
  obtain ⟨jts, rw_, atB, _⟩ := J.list sqb
  have lenA : ns.length = its.length := List.length_map (f := V.int) ▸ rv.length
  have lenB : ms.length = jts.length := List.length_map (f := V.int) ▸ rw_.length
  obtain ⟨oa, ea, ca, _⟩ := id atA.isList
  obtain ⟨ob, eb, cb, _⟩ := id atB.isList
  have aP : a ≠ P := tab_ne J tab ea (.inl fun z => by rw [ca] at z; cases z)
  have bP : b ≠ P := tab_ne J tab eb (.inl fun z => by rw [cb] at z; cases z)
  have lP : P < s1.heap.objs.size := tab.elim fun _ x => Heap.lt_size (show s1.heap.get? P = _ from J.hok P _ x.1)
  refine call_zip_2 atA.isList atB.isList fun h' isZ isT isO itA itB size keep => wpAny_pyIter_zip isZ ?_
  have up : ∀ j, j < 5 → s1.heap.objs.size + j < h'.objs.size ∧ s1.heap.objs.size + j ≠ P := fun j lj => ⟨size ▸ Nat.add_lt_add_left lj _, Nat.ne_of_gt (Nat.lt_of_lt_of_le lP (Nat.le_add_right _ j))⟩
  have W := fun (A' : Around) (calm : A'.handled = none) => (WalksT.zip2 (prog := X.prog) (w := X.w) calm (s1.heap.objs.size + 4) (s1.heap.objs.size + 2) (s1.heap.objs.size + 3) s1.heap.objs.size (s1.heap.objs.size + 1) a b (PySem.W.ktu_apart s1.heap.objs.size a b atA.lt atB.lt) its.toArray jts.toArray).toU
  have grown : s1.heap.objs.size ≤ h'.objs.size := Nat.le_of_lt (up 0 (by decide)).1
  refine ⟨_, _, _, _, _, _, _, F ns ms, pins, σ, H1, s1, rfl, ⟨J, tab, ⟨_, _, rfl⟩, keep, grown, fun d hd => ?_, fun d hd => ?_⟩, W, fun i vals x => ?_, ⟨isZ, isT, ⟨_, _, isO⟩, itA, itB, atA.isList.at fun o x => keep a o x, atB.isList.at fun o x => keep b o x⟩, ?_, ?_⟩
  · simp only [List.mem_cons, List.not_mem_nil, or_false] at hd
    rcases hd with rfl | rfl | rfl | rfl | rfl | rfl | rfl
    · exact up 4 (by decide)
    · exact up 2 (by decide)
    · exact up 3 (by decide)
    · exact up 0 (by decide)
    · exact up 1 (by decide)
    · exact ⟨Nat.lt_of_lt_of_le atA.lt grown, aP⟩
    · exact ⟨Nat.lt_of_lt_of_le atB.lt grown, bP⟩
  · simp only [List.mem_cons, List.not_mem_nil, or_false] at hd
    rcases hd with rfl | rfl | rfl | rfl
    · exact Nat.le_add_right _ _
    · exact Nat.le_add_right _ _
    · exact Nat.le_refl _
    · exact Nat.le_add_right _ _
  · exact x.elim fun _ x => x.elim fun _ x => ⟨_, _, x.2.2⟩
  · intro cenv A' E' i va vb u m T at_ nsm ma mb
    obtain ⟨x, y, hx, hy, e'⟩ := at_
    obtain ⟨rfl, rfl⟩ : va = x ∧ vb = y := by simpa using congrArg Array.toList e'
    have inA : its[i]? = some va := by simpa using hx
    have inB : jts[i]? = some vb := by simpa using hy
    have li : i < ns.length := lenA ▸ (List.getElem?_eq_some_iff.mp inA).1
    have lj : i < ms.length := lenB ▸ (List.getElem?_eq_some_iff.mp inB).1
    obtain ⟨w, hw, t, rfl⟩ := rv.get (getD_ints li)
    obtain ⟨w', hw', t', rfl⟩ := rw_.get (getD_ints lj)
    cases inA.symm.trans hw
    cases inB.symm.trans hw'
    exact turn ns ms H1 hC cenv A' E' i u m li lj t t' T.own nsm ma mb
  · intro g s5 x
    rw [List.size_toArray, List.size_toArray, ← lenA, ← lenB] at x
    exact out ns ms H1 g s5 hC x
/-- both names of such an expression are read from its frame -/
theorem read_two {sc scope : Scope} {cenv : Env} {A' : Around} {E' : Value → Shared → Prop} {u : Shared} {m : Str → Option Value} {xa xb : Str} {va vb : Value} {p q : Pos} {M : Model} (S : GenS2 sc scope xa xb) (own : cenv.scope = scope) (ns : u.heap.Ns cenv.locals m) (ma : m xa = some va) (mb : m xb = some vb)
    (hda : (xa == ("__debug__" : Str)) = false) (hdb : (xb == ("__debug__" : Str)) = false) :
    (∀ {Q : Value → Shared → Prop}, Q va u → wpAny M A' (eval (.Name xa p) cenv) Q E' u) ∧ ∀ {Q : Value → Shared → Prop}, Q vb u → wpAny M A' (eval (.Name xb q) cenv) Q E' u := by
  subst own
  exact ⟨fun h => wpAny_Name (wpAny_loadName_local S.kind S.la ns ma h) hda, fun h => wpAny_Name (wpAny_loadName_local S.kind S.lb ns mb h) hdb⟩
theorem at_getD {ns : List Int} {i : Nat} (li : i < ns.length) : ns.getD i 0 = ns[i] := by
  rw [List.getD_eq_getElem?_getD, List.getElem?_eq_getElem li]
  rfl
end
/-! ### all(a < b for a, b in zip(list, list)) -/
def tAllZ (K : PySem.W.Frag) (P : Addr) (t1 t2 : TE) : TE := fun σ H Q => t1 σ H fun v H1 => t2 σ H1 fun u H2 => ∃ (a b : Addr) (ns ms : List Int), v = .ref a ∧ u = .ref b ∧ SqL K H2 a (ns.map V.int) ∧ SqL K H2 b (ms.map V.int) ∧ GxR.TabG H2 P ∧
  ∀ H3, GxR.Tabbed P H2 H3 → Q (.bl ((List.range (min ns.length ms.length)).all fun i => decide (ns.getD i 0 < ms.getD i 0))) H3
section
variable {X : Cx}
theorem pe_allZip {c P : Addr} {e1 e2 : Expr} {xa xb : Str} {pa pb' pt p pos gpos epos ep q1 q2 q3 : Pos} {kt : Nat} {scope : Scope} {t1 t2 : TE} {k : Nat}
    (hr : Room k X.A) (hg : Gl X "all") (hm : X.mg "all" = none) (hb : bootBuiltins "all" = some (.builtin "all")) (hge : Gl X "zip") (hme : X.mg "zip" = none) (TB : GxR.TabB X.base X.mg c P) (hcode : X.env.code = .ref c) (S : GenS2 X.env.scope scope xa xb) (h1 : PE X e1 t1) (h2 : PE X e2 t2)
    (hda : (xa == ("__debug__" : Str)) = false) (hdb : (xb == ("__debug__" : Str)) = false)
    (hs : ∀ v, genFold (.Call (.Name "zip" ep) [e1, e2] [] epos) X.env v = pure v := by intro _; rfl)
    (hs1 : starEach [e1, e2] X.env = (false, eval e1 X.env) :: starEach [e2] X.env := by rfl) (hs2 : starEach [e2] X.env = (false, eval e2 X.env) :: starEach [] X.env := by rfl) (hpl : (backTo epos (starEach [e2] X.env)).any (·.1) = false := by rfl)
    (he : starEach [.GeneratorExp (.Compare (.Name xa q1) [.Lt] [.Name xb q2] q3) [⟨.Tuple [.Name xa pa, .Name xb pb'] kt pt, .Call (.Name "zip" ep) [e1, e2] [] epos, [], 0⟩] scope gpos] X.env = (false, eval (.GeneratorExp (.Compare (.Name xa q1) [.Lt] [.Name xb q2] q3) [⟨.Tuple [.Name xa pa, .Name xb pb'] kt pt, .Call (.Name "zip" ep) [e1, e2] [] epos, [], 0⟩] scope gpos) X.env) :: starEach [] X.env := by rfl) :
    PE X (.Call (.Name "all" p) [.GeneratorExp (.Compare (.Name xa q1) [.Lt] [.Name xb q2] q3) [⟨.Tuple [.Name xa pa, .Name xb pb'] kt pt, .Call (.Name "zip" ep) [e1, e2] [] epos, [], 0⟩] scope gpos] [] pos) (tAllZ X.K P t1 t2) := by
  refine ⟨fun pins s σ H Q I h => call_gen hg hm hb he I (gen_zip (C := fun ns ms H2 => ∀ H3, GxR.Tabbed P H2 H3 → Q (.bl ((List.range (min ns.length ms.length)).all fun i => decide (ns.getD i 0 < ms.getD i 0))) H3) (F := fun ns ms i y => y = .bool (decide (ns.getD i 0 < ms.getD i 0)))
    hr hge hme TB hcode S h1 h2 hs hs1 hs2 hpl (by rfl) I h ?_ ?_)⟩
  · intro ns ms H2 _ cenv A' E' i u m li lj t t' own nsm ma mb
    have two := read_two (M := model X.prog X.w) (A' := A') (E' := E') (p := q1) (q := q2) S own nsm ma mb hda hdb
    refine wpAny_Compare1 (two.1 (two.2 (lt_int ⟨?_, GxR.keeps_refl _⟩))) (nomark _)
    rw [at_getD li, at_getD lj]
  · rintro ns ms H2 g s5 q ⟨fp, wr, G, F', St, W, st, _, say, held⟩
    refine call_all_walkS (W.self 0 _ _ _ st ⟨g, fp, wr, G, _, F', St, _, rfl, W, st, truth_of say, fun s' mv => ?_⟩)
    obtain ⟨H3, grown, J⟩ := held s' mv
    exact ⟨.bl _, H3, J, rfl, q H3 grown⟩
end
/-! ### what stays where tables of code may grow -/
def Tb (T : List Addr) (H : Hp) : Prop := ∀ t ∈ T, GxR.TabG H t
structure Ext (T : List Addr) (H H' : Hp) : Prop where
  ext : ∀ b o, H b = some o → (∀ ps, o ≠ .tbl ps) → H' b = some o
  t0 : Tb T H
  t1 : Tb T H'
  free : ∀ b, H' b = none → H b = none
section
variable {T : List Addr} {H H1 H2 : Hp}
theorem Ext.refl (h : Tb T H) : Ext T H H := ⟨fun _ _ e _ => e, h, h, fun _ e => e⟩
theorem Ext.trans (a : Ext T H H1) (b : Ext T H1 H2) : Ext T H H2 := ⟨fun c o e n => b.ext c o (a.ext c o e n) n, a.t0, b.t1, fun c e => a.free c (b.free c e)⟩
theorem Ext.lst (a : Ext T H H1) {p : Addr} {xs : List V} (h : H p = some (.lst xs)) : H1 p = some (.lst xs) := a.ext _ _ h fun _ z => nomatch z
theorem Ext.tup (a : Ext T H H1) {p : Addr} {xs : List V} (h : H p = some (.tup xs)) : H1 p = some (.tup xs) := a.ext _ _ h fun _ z => nomatch z
theorem Ext.same (s : Same H H1) (h : Tb T H) : Ext T H H1 := ⟨fun b o e _ => s b o e, h, fun t ht => by
  obtain ⟨ps, h1, h2⟩ := h t ht
  exact ⟨ps, s _ _ h1, h2⟩, fun b e => s.free e⟩
theorem Ext.new (a : Ext T H H1) {p : Addr} {o : HO} (hp : H p = none) : Ext T H (upd H1 p o) := by
  refine ⟨fun b u e n => ?_, a.t0, fun t ht => ?_, fun b e => ?_⟩
  · rw [upd_ne (ne_of_none e hp)]
    exact a.ext b u e n
  · obtain ⟨ps, h1, h2⟩ := a.t1 t ht
    obtain ⟨qs, h3, _⟩ := a.t0 t ht
    exact ⟨ps, by rw [upd_ne (ne_of_none h3 hp)]; exact h1, h2⟩
  · by_cases z : b = p
    · subst z
      exact hp
    · rw [upd_ne z] at e
      exact a.free b e
theorem Ext.tabbed {t : Addr} (h : Tb T H) (x : GxR.Tabbed t H H1) (ht : t ∈ T) : Ext T H H1 := by
  refine ⟨fun b o e n => ?_, h, fun u hu => ?_, fun b e => ?_⟩
  · obtain ⟨ps, h1, _⟩ := h t ht
    rw [x.2 b (fun z => by rw [z, h1] at e; exact n ps (Option.some.inj e).symm)]
    exact e
  · by_cases z : u = t
    · rw [z]
      exact x.1
    · obtain ⟨ps, h1, h2⟩ := h u hu
      exact ⟨ps, by rw [x.2 u z]; exact h1, h2⟩
  · by_cases z : b = t
    · obtain ⟨ps, h1, _⟩ := x.1
      rw [z, h1] at e
      cases e
    · rw [x.2 b z] at e
      exact e
end
/-! ### shops -/
inductive Ofr where
  | pack (c : List Int) (p : Int)
  | many (c : List Int) (ts : List (Int × Int))
  | add (c : List Int) (p k : Int)
def Ofr.cont : Ofr → List Int
  | .pack c _ => c
  | .many c _ => c
  | .add c _ _ => c
def Ofr.word : Ofr → Str
  | .pack _ _ => "pack"
  | .many _ _ => "many"
  | .add _ _ _ => "add"
def TiersAt (H : Hp) (a : Addr) (ts : List (Int × Int)) : Prop := ∃ us : List Addr, H a = some (.lst (us.map V.ref)) ∧ us.length = ts.length ∧ ∀ (i : Nat) u (t : Int × Int), us[i]? = some u → ts[i]? = some t → H u = some (.tup [.int t.1, .int t.2])
def OfrAt (H : Hp) (a : Addr) : Ofr → Prop
  | .pack c p => ∃ b, H a = some (.tup [.str "pack", .ref b, .int p]) ∧ H b = some (LI c)
  | .many c ts => ∃ b t, H a = some (.tup [.str "many", .ref b, .ref t]) ∧ H b = some (LI c) ∧ TiersAt H t ts
  | .add c p k => ∃ b, H a = some (.tup [.str "add", .ref b, .int p, .int k]) ∧ H b = some (LI c)
def ShopAt (H : Hp) (a : Addr) (os : List Ofr) : Prop := ∃ vs : List Addr, H a = some (.lst (vs.map V.ref)) ∧ vs.length = os.length ∧ ∀ (i : Nat) v o, vs[i]? = some v → os[i]? = some o → OfrAt H v o
section
variable {T : List Addr} {H H1 : Hp} (e : Ext T H H1)
include e
theorem TiersAt.ext {a : Addr} {ts : List (Int × Int)} (h : TiersAt H a ts) : TiersAt H1 a ts := by
  obtain ⟨us, h1, h2, h3⟩ := h
  exact ⟨us, e.lst h1, h2, fun i u t a b => e.tup (h3 i u t a b)⟩
theorem OfrAt.ext {a : Addr} : ∀ {o : Ofr}, OfrAt H a o → OfrAt H1 a o
  | .pack c p, ⟨b, h1, h2⟩ => ⟨b, e.tup h1, e.lst h2⟩
  | .many c ts, ⟨b, t, h1, h2, h3⟩ => ⟨b, t, e.tup h1, e.lst h2, h3.ext e⟩
  | .add c p k, ⟨b, h1, h2⟩ => ⟨b, e.tup h1, e.lst h2⟩
theorem ShopAt.ext {a : Addr} {os : List Ofr} (h : ShopAt H a os) : ShopAt H1 a os := by
  obtain ⟨vs, h1, h2, h3⟩ := h
  exact ⟨vs, e.lst h1, h2, fun i v o a b => (h3 i v o a b).ext e⟩
end
/-- the offer's word and its content, whatever it is -/
theorem OfrAt.head {H : Hp} {a : Addr} : ∀ {o : Ofr}, OfrAt H a o → ∃ b r, H a = some (.tup (.str o.word :: .ref b :: r)) ∧ H b = some (LI o.cont)
  | .pack c p, ⟨b, h1, h2⟩ => ⟨b, _, h1, h2⟩
  | .many c ts, ⟨b, t, h1, h2, h3⟩ => ⟨b, _, h1, h2⟩
  | .add c p k, ⟨b, h1, h2⟩ => ⟨b, _, h1, h2⟩
theorem ShopAt.get {H : Hp} {a : Addr} {os : List Ofr} {vs : List Addr} (h : vs.length = os.length) {i : Nat} (hi : i < os.length) : ∃ v o, vs[i]? = some v ∧ os[i]? = some o ∧ (vs.map V.ref)[i]? = some (.ref v) := by
  refine ⟨vs[i]'(by omega), os[i], List.getElem?_eq_getElem (by omega), List.getElem?_eq_getElem hi, ?_⟩
  rw [List.getElem?_map, List.getElem?_eq_getElem (by omega)]
  rfl
structure GoodT (ts : List (Int × Int)) : Prop where
  pos : 1 ≤ ts.length
  few : ts.length ≤ 4
  one : ∀ t, ts[0]? = some t → t.1 = 1
  most : ∀ t ∈ ts, t.1 ≤ 12
  rise : ∀ (i : Nat) a b, ts[i]? = some a → ts[i + 1]? = some b → a.1 < b.1
def GoodO (os : List Ofr) (i : Nat) : Ofr → Prop
  | .pack _ _ => True
  | .many _ ts => GoodT ts
  | .add _ _ k => ∃ j : Nat, k = (j : Int) ∧ j < i ∧ ∃ c p, os[j]? = some (.pack c p)
def Good (os : List Ofr) : Prop := os.length ≤ 8 ∧ ∀ (i : Nat) o, os[i]? = some o → GoodO os i o
/-- F.ok with the code object told -/
theorem okc {P : Program} {w : World} {K : PySem.W.Frag} {mg : Str → Option Value} {base : Heap} {x qual : Str} {st : Stmt} {f c : Addr} {fd : FuncData} {N ps : List Str} {k : Nat} {sp : Sp} (F : Fun K x qual st f fd) (hc : fd.code = .ref c) (S : FnScope N ps (defScope st)) (len : ∀ vs H Q E, sp vs H Q E → vs.length = ps.length)
    (hbody : ∀ (cdv : Value) (A : Around) (outer : List Env) (s : Shared) (H : Hp) (vs : List V) (Q : VK) (E : XK), cdv = .ref c → Room k (A.deeper (envOfC qual (defScope st) s.heap.objs.size f cdv)) → sp vs H Q E →
      ∃ t, PSs (cxOf CX0 P w K mg base N qual (defScope st) f cdv A outer s H E).nox (defBody st) t ∧ t { nx := fun _ H' => Q .non H', rt := Q } (start N vs) H) : FnOk P w K mg base CX0 (k + 1) f fd ps sp := by
  obtain ⟨oc, od, kV, doc, pm, an, cdv, ct, osl, rfl, lk, hcd⟩ := F.ex
  refine fn_of lk hcd S len fun A outer s H vs Q E hr hsp => ?_
  obtain ⟨t, h, q⟩ := hbody cdv A outer s H vs Q E hc hr hsp
  exact ⟨t, h.nox, q⟩
/-- a list without its first -/
theorem cut1 (l : List V) : cutV l (some 1) none = l.drop 1 := by
  have a : HT.sIx l.length 0 (some ((1 : Nat) : Int)) = min 1 l.length := HT.sIx_nat _ _ _
  show (l.drop (HT.sIx l.length 0 (some ((1 : Nat) : Int)))).take (l.length - HT.sIx l.length 0 (some ((1 : Nat) : Int))) = l.drop 1
  rw [a]
  rcases Nat.eq_zero_or_pos l.length with z | z
  · rw [List.eq_nil_of_length_eq_zero z]
    rfl
  · rw [Nat.min_eq_left z]
    exact List.take_of_length_le (by rw [List.length_drop]; exact Nat.le_refl _)
/-! ### an exception that is kept behind its except suite -/
/-- at a: an exception of the class cls, its dict d -/
def exk (a : Addr) (cls : Value) (d : Option Addr) : HO := .ext fun h => ∃ (ob : Obj) (fs : Array Value), h.get? a = some ob ∧ Zc cls d ob ∧ ob.data = .fields fs
theorem exk_ok {P : Program} {w : World} {H : Hp} {h : Heap} {a : Addr} {cls : Value} {d : Option Addr} {ob : Obj} {fs : Array Value} (e : h.get? a = some ob) (z : Zc cls d ob) (k : ob.data = .fields fs) : ObjOk P w H h a (exk a cls d) :=
  ⟨⟨ob, fs, e, z, k⟩, ⟨ob, e⟩, fun _ _ ⟨u, gs, q, r⟩ m => ⟨u, gs, m u q, r⟩⟩
theorem exk_at {P : Program} {w : World} {H : Hp} {h : Heap} {a : Addr} {cls : Value} {d : Option Addr} (all : HOk P w H h) (e : H a = some (exk a cls d)) : ∃ (ob : Obj) (fs : Array Value), h.get? a = some ob ∧ Zc cls d ob ∧ ob.data = .fields fs := by
  have here := all a _ e
  exact (show ObjOk P w H h a (.ext fun h => ∃ (ob : Obj) (fs : Array Value), h.get? a = some ob ∧ Zc cls d ob ∧ ob.data = .fields fs) from here).1
/-- an object that nobody followed is followed from now on: what was followed stands elsewhere -/
theorem upd_far {H : Hp} {a b : Addr} {o u : HO} (na : H a = none) (e : H b = some u) : upd H a o b = some u := by
  have far : b ≠ a := fun z => Option.some_ne_none u (e.symm.trans ((congrArg H z).trans na))
  exact (upd_ne far).trans e
theorem Inv_track {X : Cx} {pins : List (Addr × Obj)} {σ : L2.St} {H : Hp} {s : Shared} {a : Addr} {ob : Obj} {fs : Array Value} {o : HO} (I : Inv X pins σ H s) (ha : s.heap.get? a = some ob) (hd : ob.data = .fields fs) (na : H a = none)
    (n0 : X.s_0.heap.get? a = none) (nL : a ≠ X.env.locals) (np : ∀ p ∈ X.pn ++ pins, p.1 ≠ a) (ok : ObjOk X.prog X.w (upd H a o) s.heap a o) : Inv X pins σ (upd H a o) s := by
  have all : HOk X.prog X.w (upd H a o) s.heap := by
    intro b u e
    by_cases far : b = a
    · cases far
      cases upd_same.symm.trans e
      exact ok
    · exact (I.hok b u ((upd_ne far).symm.trans e)).stay (fun _ _ _ r => r) (fun _ r => upd_far na r) (fun _ _ r => upd_far na r)
  have noCell : ∀ x c, X.env.cells.lookup x = some c → c ≠ a := by
    intro x c e z
    obtain ⟨v, u, hu, du⟩ := I.cell x c e
    cases (congrArg s.heap.get? z).symm.trans hu |>.symm.trans ha
    exact Data.noConfusion (hd.symm.trans du)
  exact
    { ok := I.ok, os := I.os, bare := I.bare, loc := I.loc, cell := I.cell, len := I.len, hok := all
      free := (upd_ne nL.symm).trans I.free
      freeC := fun x c e => (upd_ne (noCell x c e)).trans (I.freeC x c e)
      pin := fun p hp => ⟨(I.pin p hp).1, (upd_ne (np p hp)).trans (I.pin p hp).2.1, (I.pin p hp).2.2⟩
      base :=
        { keep := I.base.keep, slot := I.base.slot, there := I.base.there
          free := fun b u e n x => (upd_ne fun z => Option.some_ne_none u (e.symm.trans ((congrArg X.s_0.heap.get? z).trans n0))).trans (I.base.free b u e n x)
          tups := fun b xs e => upd_far na (I.base.tups b xs e)
          frzs := fun b u xs e => upd_far na (I.base.frzs b u xs e)
          tbls := fun b ps e => (I.base.tbls b ps e).elim fun m r => ⟨m, upd_far na r⟩ } }
section
variable {X : Cx} {pins pins' : List (Addr × Obj)} {σ : L2.St} {H : Hp} {s : Shared} {a : Addr}
/-- into an except suite with nothing kept aside, and out of it -/
theorem Inv_suiteK (I : Inv X pins σ H s) (a : Addr) : Inv (X.suite a (X.pn ++ pins)) [] σ H s :=
  { ok := I.ok.suite a _, os := I.os, bare := I.bare, base := I.base, loc := I.loc, cell := I.cell, free := I.free, freeC := I.freeC, hok := I.hok, len := I.len
    pin := fun p hp => I.pin p ((List.append_nil (X.pn ++ pins)) ▸ hp) }
theorem Inv_unsuiteK (I : Inv (X.suite a (X.pn ++ pins)) pins' σ H s) (ok : X.Ok) : Inv X pins σ H s :=
  { ok := ok, os := I.os, bare := I.bare, base := I.base, loc := I.loc, cell := I.cell, free := I.free, freeC := I.freeC, hok := I.hok, len := I.len
    pin := fun p hp => I.pin p (List.mem_append.mpr (.inl hp)) }
/-- an end stands in another context as well -/
theorem sp_map {Y : Cx} {q : List (Addr × Obj)} {D : Ends} {f : Flow} (g : ∀ {σ H}, Inv X pins σ H s → Inv Y q σ H s) (x : SP X pins D f s) : SP Y q D f s := by
  cases f
  case ret => exact x.elim fun v x => x.elim fun σ x => x.elim fun H x => ⟨v, σ, H, g x.1, x.2⟩
  all_goals exact x.elim fun σ x => x.elim fun H x => ⟨σ, H, g x.1, x.2⟩
end
/-! ### a try with one clause, whatever the clause does -/
/-- an exception, at a, has fallen out of a try's body in the state sI; s' is the state in which it is looked at -/
structure Fell (X : Cx) (pins : List (Addr × Obj)) (B : Heap) (a : Addr) (σ : L2.St) (H : Hp) (sI s' : Shared) : Prop where
  was : Inv X pins σ H sI
  kept : ∀ b o, sI.heap.get? b = some o → b ∉ frs X.stack → B.get? b = some o
  unseen : H a = none
  world : s'.os = sI.os
  bare : AllBare s'.gens
/-- it flies through h -/
abbrev Air (X : Cx) (B : Heap) (a : Addr) (cls : Value) (d : Option Addr) (h : Heap) : Prop := HandSPX.FlyingZ B (X.env :: X.outer) a (Zc cls d) h
section
variable {X : Cx} {pins : List (Addr × Obj)} {B h : Heap} {a : Addr} {cls : Value} {d : Option Addr} {σ : L2.St} {H : Hp} {sI s' : Shared}
theorem Fell.stands (F : Fell X pins B a σ H sI s') (up : sI.heap.UpToSlots h) (air : Air X B a cls d h) : Inv X pins σ H { s' with heap := h } := F.was.landed F.kept air.1 up F.world F.bare
theorem Air.noFrame (air : Air X B a cls d h) : a ∉ frs (X.env :: X.outer) := by
  intro isOne
  obtain ⟨ob, fs, at_, _, isEx⟩ := air.there
  obtain ⟨_, u, hu, no⟩ := air.2.2.1.mem isOne
  cases hu.symm.trans at_
  exact no fs isEx
theorem Air.noLocals (air : Air X B a cls d h) (hf : X.env.frame = some X.env.locals) : a ≠ X.env.locals := by
  intro z
  refine air.noFrame ?_
  unfold frs
  rw [List.filterMap_cons, hf, z]
  exact List.mem_cons_self
theorem Air.type (air : Air X B a cls d h) : PySem.W.Looks (model X.prog X.w) h (typeOf (.ref a)) cls := by
  obtain ⟨ob, fs, at_, z, _⟩ := air.there
  intro A Q E s more q
  exact wpAny_typeOf_ref (more _ _ at_) (z.1.symm ▸ q)
/-- it is none of what stood at the entry, and nothing that is kept aside -/
theorem Fell.since (F : Fell X pins B a σ H sI s') (hs : X.stack = X.env :: X.outer) (hex : X.ex = []) (air : Air X B a cls d h) : X.s_0.heap.get? a = none := by
  refine Option.eq_none_iff_forall_ne_some.mpr fun o e => ?_
  obtain ⟨u, hu⟩ := F.was.base.there a o e (hex ▸ List.not_mem_nil)
  exact Option.some_ne_none u ((F.kept a u hu (hs ▸ air.noFrame)).symm.trans air.2.1)
theorem Fell.aside (F : Fell X pins B a σ H sI s') (air : Air X B a cls d h) : ∀ p ∈ X.pn ++ pins, p.1 ≠ a := by
  intro p hp z
  have P := F.was.pin p hp
  have b := F.kept p.1 p.2 P.1 fun isOne => (List.mem_cons.mp (F.was.stkSub p.1 isOne)).elim P.2.2.1 P.2.2.2.1
  exact Option.some_ne_none p.2 (b.symm.trans (z ▸ air.2.1))
/-- a class's name, read where the exception is looked at -/
theorem Fell.name (F : Fell X pins B a σ H sI s') (up : sI.heap.UpToSlots h) (air : Air X B a cls d h) {x : Str} {c : Value} {p : Pos} {Q : Value → Shared → Prop} {E : Value → Shared → Prop} (n : L2.Names X x c)
    (q : Q c { s' with heap := h }) : wpAny (model X.prog X.w) (X.A.mark (some (.ref a))) (eval (.Name x p) X.env) Q E { s' with heap := h } := by
  have I := Inv_suiteK (F.stands up air) a
  rcases n.2.2 with own | given
  · exact ld_glob (X := X.suite a (X.pn ++ pins)) I n.1 own q n.2.1
  · exact ld_blt (X := X.suite a (X.pn ++ pins)) I n.1 given.1 given.2.1 q given.2.2 n.2.1
/-- no clause is left: it flies on -/
theorem Fell.passes {D : Ends} {W : WX} (F : Fell X pins B a σ H sI s') (up : sI.heap.UpToSlots h) (air : Air X B a cls d h) (hs : X.stack = X.env :: X.outer) (hf : X.env.frame = some X.env.locals) (tk : L2.Takes X W) (w : W cls d σ H) :
    wpAny (model X.prog X.w) X.A (handleBy (.ref a) X.env []) (SP X pins D) X.xe { s' with heap := h } := by
  obtain ⟨_, _, _, ob, fs, T, _, _, at_, _, isEx, trace, _⟩ := id air
  have out : wpAny (model X.prog X.w) X.A (setFlight (.ref a) X.env.frame) (fun _ t => wpAny (model X.prog X.w) X.A (throw (.ref a) : Sem Flow) (SP X pins D) X.xe t) X.xe { s' with heap := h } :=
    hf.symm ▸ HandSPX.setFlight_upZ air fun h4 air4 up4 => wpAny_throw (tk _ _ ⟨a, B, sI, pins, σ, H, cls, d, rfl, F.was, F.kept, up.trans up4, .inr (.inr (hs.symm ▸ air4)), F.unseen, F.world, F.bare, w⟩)
  have some_ : ¬ ((Value.ref T == Value.none) = true) := by simp
  refine wpAny_handleBy_nil ?_
  unfold PySem.passOn
  refine wpAny_bind (wpAny_field at_ isEx trace ?_)
  rw [if_neg some_]
  first
    | exact wpAny_bind out
    | exact wpAny_bind (wpAny_pure (wpAny_bind out))
end
section
variable {X : Cx} {body : List Stmt} {hd : ExceptHandler} {pos : Pos} {tb : WX → TS} {W : Ends → WX}
/-- the rule: what the body lets fall is handled by the clause -/
theorem ps_try_by (hs : X.stack = X.env :: X.outer) (hf : X.env.frame = some X.env.locals)
    (hb : ∀ (V : WX) (pn : List (Addr × Obj)) (E : Value → Shared → Prop), L2.Takes (X.tr pn E) V → PassesOwn (model X.prog X.w) X.A X.env E → PSs (X.tr pn E) body (tb V))
    (hh : ∀ (pins : List (Addr × Obj)) (D : Ends) (B h : Heap) (a : Addr) (cls : Value) (d : Option Addr) (σ : L2.St) (H : Hp) (sI s' : Shared), X.Ok → Fell X pins B a σ H sI s' → sI.heap.UpToSlots h → Air X B a cls d h → W D cls d σ H →
      wpAny (model X.prog X.w) X.A (handleBy (.ref a) X.env [hd]) (SP X pins D) X.xe { s' with heap := h }) :
    PS X (.Try body [hd] [] [] pos) (fun D σ H => tb (W D) D σ H) := by
  refine ⟨fun pins s σ H D I h => wpAny_Try_except ?_⟩
  have looked : L2.Takes (X.tr (X.pn ++ pins) fun e t => wpAny (model X.prog X.w) X.A (noteFrame e X.env) (fun _ t => wpAny (model X.prog X.w) X.A (setFlight e none) (fun _ t => wpAny (model X.prog X.w) X.A (handleBy e X.env [hd]) (SP X pins D) X.xe t) X.xe t) X.xe t) (W D) := by
    rintro u s' ⟨a, B, sI, q, σ1, H1, cls, d, rfl, J, kept, up, sky, unseen, world, bare, w⟩
    refine Sky.land Zc.steady (I.ok.frames.trans (congrArg some hs)) hf (hs ▸ sky) fun h3 air up3 => ?_
    exact hh pins D B h3 a cls d σ1 H1 sI s' I.ok ⟨J.ofTry I.ok, kept, unseen, world, bare⟩ (up.trans up3) air w
  refine wpAny_mono ((hb (W D) (X.pn ++ pins) _ looked PassesOwn.looking).run [] s σ H D (I.toTry _) h) (fun f t x => ?_) (fun _ _ x => x)
  have x : SP X pins D f t := sp_map (fun J => J.ofTry I.ok) x
  cases f
  case next => exact wpAny_execs_nil x
  all_goals exact x
end
/-- what the clause wishes: the exception is followed -/
def wAsK (K : PySem.W.Frag) (c : Value) (i : Nat) (ts : TS) (Wout : WX) (D : Ends) : WX := fun cls d σ H =>
  ∃ b, PySem.W.exmOne K cls c = some b ∧ (b = true → ∀ a, H a = none → ts { nx := fun σ' H' => D.nx (σ'.set i none) H', rt := D.rt, bk := fun σ' H' => D.bk (σ'.set i none) H', ct := fun σ' H' => D.ct (σ'.set i none) H' } (σ.set i (some (.ref a))) (upd H a (exk a cls d))) ∧
    (b = false → Wout cls d σ H)
section
variable {X : Cx} {x n : Str} {c : Value} {i : Nat} {body suite : List Stmt} {b₀ : Stmt} {np pos pos' : Pos} {tb : WX → TS} {ts : TS} {Wout : WX}
theorem ps_try_asK (hs : X.stack = X.env :: X.outer) (hf : X.env.frame = some X.env.locals) (hex : X.ex = []) (hN : X.N.Nodup) (hi : X.N[i]? = some n) (hln : X.env.kindOf n = some .local) (hc : L2.Names X x c) (tk : L2.Takes X Wout)
    (hb : ∀ (W : WX) (pn : List (Addr × Obj)) (xe : Value → Shared → Prop), L2.Takes (X.tr pn xe) W → PassesOwn (model X.prog X.w) X.A X.env xe → PSs (X.tr pn xe) body (tb W))
    (hsu : ∀ (a : Addr) (pn : List (Addr × Obj)), PSs (X.suite a pn) (b₀ :: suite) ts) :
    PS X (.Try body [.ExceptHandler (some (.Name x np)) (some n) (b₀ :: suite) pos'] [] [] pos) (fun D σ H => tb (wAsK X.K c i ts Wout D) D σ H) := by
  refine ps_try_by (W := wAsK X.K c i ts Wout) hs hf hb ?_
  intro pins D B h a cls d σ H sI s' ok F up air ⟨b, asked, yes, no⟩
  refine wpAny_handleBy_cons (codeAny_handlers_test (F.name up air hc ?_)) nofun
  refine (PySem.W.exm_one (M := model X.prog X.w) (F.stands up air).kIn air.type asked).here ?_
  cases b
  · exact F.passes up air hs hf tk (no rfl)
  · refine codeAny_handlers_suite_as (HandSPX.lands_againZ air fun h4 air4 up4 => ?_)
    have air4 : Air X B a cls d h4 := air4
    obtain ⟨ob, fs, at_, z, isEx⟩ := air4.there
    have J := Inv_track (F.stands (up.trans up4) air4) at_ isEx F.unseen (F.since hs hex air4) (air4.noLocals hf) (F.aside air4) (exk_ok at_ z isEx)
    refine store_ok (X := X.suite a (X.pn ++ pins)) (v := .ref a) (Inv_suiteK J a) hN hi (.inl hln) rfl (fun t S => ?_) (.inr hln)
    refine wpAny_mono ((hsu a (X.pn ++ pins)).run [] t _ _ _ S (yes rfl a F.unseen)) (fun f t x => ?_) (fun _ _ no => no.elim)
    have gone : ∀ {σ5 : L2.St} {H5 : Hp} {Q : Shared → Prop}, Inv (X.suite a (X.pn ++ pins)) [] σ5 H5 t → (∀ t', Inv X pins (σ5.set i none) H5 t' → Q t') → wpAny (model X.prog X.w) X.A (do bindName X.env n .none; unbindBehindTheSuite X.env n pos') (fun _ t' => Q t') X.xe t :=
      fun S5 q => gone_ok (Inv_unsuiteK S5 ok) hN hi hln q
    cases f
    case ret => exact x.elim fun v x => x.elim fun σ5 x => x.elim fun H5 x => gone x.1 fun t' J5 => ⟨v, _, H5, J5, x.2⟩
    all_goals exact x.elim fun σ5 x => x.elim fun H5 x => gone x.1 fun t' J5 => ⟨_, H5, J5, x.2⟩
end
/-! ### isinstance, fields of a kept exception -/
/-- a class that answers isinstance rightly does so for its instances with fields as well -/
theorem exc_asked {K : PySem.W.Frag} {D x : Addr} {ox : Obj} {od : Option Obj} (C : ExcC K D) : PySem.W.KitX K (.ref x) (.ref D) (fun h => PySem.W.InstAt h x ox D od) :=
  PySem.W.kitx_exc ((PySem.W.any_some C.hd).elim fun _ r => by rw [r.1]; rfl) C.hg C.hk C.hs C.ha C.hn C.ht C.hm
/-- isinstance(e, c), e an exception that is kept; its fields stand at d -/
def rIsK (K : PySem.W.Frag) : List V → Hp → VK → Prop := fun xs H Q => ∃ (a D d : Addr) (fs : List (Str × V)) (c : V) (cv : Value) (b : Bool), xs = [.ref a, c] ∧ H a = some (exk a (.ref D) (some d)) ∧ H d = some (.xd fs) ∧ ExcC K D ∧ (∀ u, RelV c u → u = cv) ∧ PySem.W.kitOne K (.ref D) cv = some b ∧ Q (.bl b) H
theorem inst_of {X : Cx} {pins : List (Addr × Obj)} {σ : L2.St} {H : Hp} {s : Shared} {a D d : Addr} {fs : List (Str × V)} (I : Inv X pins σ H s) (ha : H a = some (exk a (.ref D) (some d))) (hd : H d = some (.xd fs)) :
    ∃ oe od mA, PySem.W.InstAt s.heap a oe D (some od) ∧ s.heap.Ns1 d mA ∧ (∀ f, RelO (fs.lookup f) (mA f)) ∧ ∀ n, PySem.W.lookIn n od = some (mA n) := by
  obtain ⟨mA, there, same⟩ := show ObjOk X.prog X.w H s.heap d (.xd fs) from I.hok d _ hd
  obtain ⟨od, atD, looks⟩ := lookIn_ns there
  obtain ⟨ob, vs, atA, z, isEx⟩ := exk_at I.hok ha
  have noClass : PySem.W.notCls ob = true := by
    unfold PySem.W.notCls
    rw [isEx]
  exact ⟨ob, od, mA, ⟨atA, z.1, noClass, z.2 ▸ atD⟩, there, same, looks⟩
theorem call_isK {X : Cx} : CallR X (.builtin "isinstance") (rIsK X.K) := by
  rintro pins s σ H _ us Q I r ⟨a, D, d, fs, c, cv, b, rfl, ha, hd, C, only, e, q⟩
  obtain ⟨ob, od, mA, J, _⟩ := inst_of I ha hd
  match us, r with
  | [_, t], .cons rfl (.cons rt .nil) =>
    cases only t rt
    exact PySem.W.kia_one (exc_asked C) I.kIn J e nofun fun _ => ⟨.bl b, H, I.kept fun _ _ z => z, rfl, q⟩
/-- e.f -/
def tXk (K : PySem.W.Frag) (f : Str) (te : TE) : TE := fun σ H Q => te σ H fun x H1 => ∃ (a C d : Addr) (fs : List (Str × V)) (v : V), x = .ref a ∧ H1 a = some (exk a (.ref C) (some d)) ∧ H1 d = some (.xd fs) ∧ XfC K C ∧ PySem.W.findIn K (.ref C) f = some none ∧ fs.lookup f = some v ∧ Q v H1
theorem pe_xk {X : Cx} {e : Expr} {te : TE} {pos : Pos} {n : Str} (he : PE X e te) (hb : attributeBase e n X.env (eval e X.env) = eval e X.env := by rfl) : PE X (.Attribute e n pos) (tXk X.K n te) := by
  constructor
  intro pins s σ H Q I h
  refine attr_of hb (thn (he.run pins s σ H _ I h) ?_)
  rintro u t ⟨_, H1, J, isRef, a, C, d, fs, v, rfl, ha, hd, T, own, at_, q⟩
  cases (show u = Value.ref a from isRef)
  obtain ⟨ob, od, mA, inst, _, same, looks⟩ := inst_of J ha hd
  obtain ⟨w, hw, rw_⟩ := RelO.some_of (v := v) (o := mA n) (at_ ▸ same n)
  have found : PySem.W.lookIn n od = some (some w) := (looks n).trans (congrArg some hw)
  exact HandSPX.exc_get J.kIn inst T.ga T.gg T.exC (PySem.W.findObj_own T.hdC own rfl found) (handed_of rw_) ⟨v, H1, J.tok _, rw_, q⟩
/-! ### Base.__init__(self, ..), Base an own class over ValueError without __init__ -/
section
variable {X : Cx} {e : Expr} {es : List Expr} {ta : TA} {p1 p2 pos : Pos}
theorem pe_binit {pl : Sem Bool} {B : Str} {CB : Addr} {mc : Value} (hg : Gl X B) (hm : X.mg B = some (.ref CB)) (hr : PySem.W.readsIn X.K CB mc = true) (ga : PySem.W.specialIn X.K (.ref CB) "__getattribute__" = some (some (.builtin "type.__getattribute__"))) (vV : PySem.W.findCls X.K (.ref CB) mc "__init__" = some (.val (.builtin "ValueError.__init__"))) (ha : PA X (e :: es) ta)
    (hdb : (B == ("__debug__" : Str)) = false := by decide)
    (hc : eval (.Call (.Attribute (.Name B p1) "__init__" p2) (e :: es) [] pos) X.env = (eval (.Name B p1) X.env >>= fun owner => standAt p2.atName >>= fun _ =>
      holding [owner] (getMethod owner "__init__" pl) >>= fun m => callWith pos m.1 m.2 (backTo pos (starEach (e :: es) X.env)) (backToKw pos (keywordEach [] X.env))) := by rfl)
    (hse : starEach (e :: es) X.env = (false, eval e X.env) :: starEach es X.env := by rfl) (hpl : (backTo pos (starEach es X.env)).any (·.1) = false := by rfl) :
    PE X (.Call (.Attribute (.Name B p1) "__init__" p2) (e :: es) [] pos) (tVeI X.K ta) := by
  constructor
  intro pins s σ H Q I h
  refine PySem.W.methodCall_KW (ld_glob I hg hm ?_ hdb) hc
  refine PySem.W.method_cls I.kIn ga (PySem.W.cls_value I.kIn hr vV (by decide +kernel) ?_)
  refine PyProof.Rows.callWith_method1 (thn (ha.run pos pins _ σ H _ (I.tok _) h) ?_) hse hpl
  rintro us t ⟨_, H1, J, r, a, C, ws, rfl, few, T, at_, q⟩
  match us, r with
  | _ :: ur, .cons rfl rs =>
    have fits : ur.length ≤ sizeLine := Nat.le_trans (Nat.le_of_eq (Paired.length rs).symm) (Nat.le_trans few (by rw [sizeLine_eq]; decide))
    exact oinit_ok T J at_ fits fun t' J' => ⟨.non, H1, J', rfl, q⟩
end
/-! ### a new exception of an own class, whose own __init__ is told -/
/-- the heap in which its __init__ begins -/
def exNew (h : Heap) (C : Addr) (us : List Value) : Heap := (h.push (PySem.W.kdv_tup us)).push (PySem.HandSPX.excO C h.objs.size)
theorem exNew_keeps {h : Heap} {C : Addr} {us : List Value} : ∀ b o, h.get? b = some o → (exNew h C us).get? b = some o := fun _ _ e => Heap.get?_push_of_some _ (Heap.get?_push_of_some _ e)
theorem exNew_at {h : Heap} {C : Addr} {us : List Value} : (exNew h C us).get? (h.objs.size + 1) = some (PySem.HandSPX.excO C h.objs.size) := by
  unfold exNew
  heap_get
theorem made_new {X : Cx} {CX : CXT} {C fI : Addr} {k : Nat} {fd : FuncData} {ps : List Str} {sp : Sp} {pins : List (Addr × Obj)} {σ : L2.St} {H : Hp} {s : Shared} {vs : List V} {us : List Value} {Q : VK} {R E : Value → Shared → Prop}
    (T : OexC X.K C) (iC : PySem.W.findIn X.K (.ref C) "__init__" = some (some (.ref fI))) (tI : PySem.W.typeIn X.K (.ref fI) = some (.type "function")) (F1 : FnOk X.prog X.w X.K X.mg X.base CX k fI fd ps sp) (room : Room (k + 1) X.A) (binds : Binds X.K fd ps [])
    (I : Inv X pins σ H s) (r : Vals vs us) (few : vs.length ≤ 1000) (q : sp (.ref (s.heap.objs.size + 1) :: vs) (upd H (s.heap.objs.size + 1) (exo (s.heap.objs.size + 1) C none)) Q (fun _ _ _ => False))
    (bad : ∀ er s', Inv X pins σ (upd H (s.heap.objs.size + 1) (exo (s.heap.objs.size + 1) C none)) { s with heap := exNew s.heap C us } →
      CX X.stack (upd H (s.heap.objs.size + 1) (exo (s.heap.objs.size + 1) C none)) { s with heap := exNew s.heap C us } (fun _ _ _ => False) er s' → E er s')
    (good : ∀ u s', Inv X pins σ (upd H (s.heap.objs.size + 1) (exo (s.heap.objs.size + 1) C none)) { s with heap := exNew s.heap C us } →
      CE X.stack X.prog X.w (upd H (s.heap.objs.size + 1) (exo (s.heap.objs.size + 1) C none)) { s with heap := exNew s.heap C us } Q u s' → u = .none ∧ R (.ref (s.heap.objs.size + 1)) s') :
    wpAny (model X.prog X.w) X.A (call (.ref C) us) R E s := by
  obtain ⟨nm, q0, N, bs, bm, sn, sub, ab, col, dd, k0, k1, k2, k3, k5, isCls, likes⟩ := T.cls
  obtain ⟨hp, gs, dr, tk, os⟩ := s
  have J : Inv X pins σ (upd H (hp.objs.size + 1) (exo (hp.objs.size + 1) C none)) ⟨exNew hp C us, gs, dr, tk, os⟩ := I.laid (t' := tk) exNew_keeps (Nat.le_succ _) (exo_ok exNew_at)
  have all : Vals (V.ref (hp.objs.size + 1) :: vs) (Value.ref (hp.objs.size + 1) :: us) := .cons rfl r
  have many : (Value.ref (hp.objs.size + 1) :: us ++ []).length = ps.length := (congrArg List.length (List.append_nil _)).trans (all.length.symm.trans (F1.len _ _ _ _ q))
  have fits : us.length ≤ sizeLine := Nat.le_trans (Nat.le_of_eq (Paired.length r).symm) (Nat.le_trans few (by rw [sizeLine_eq]; decide))
  have told := binds ⟨exNew hp C us, gs, dr, tk, os⟩ (Value.ref (hp.objs.size + 1) :: us) J.kIn many
  rw [List.append_nil] at told
  have runs := F1.run _ X.stack _ _ ⟨Value.ref (hp.objs.size + 1) :: us, []⟩ _ _ Q (fun _ _ _ => False) (room.make C us []) (J.env0.make C us []) told all q
  refine wpAny_call (PySem.HandSPX.call_own F.excBase_ValueError (fun Y => PySem.HandSPX.refsVE_contains Y bm likes) (I.kIn _ _ isCls) (PySem.W.looks_findIn I.kIn iC) (fun self => PySem.W.bind_fn I.kIn self tI) fits (codeAny_mono runs ?_))
  rintro (er | fl) s' after
  · exact bad er s' J after
  · cases fl
    case ret u => exact good u s' J after
    all_goals exact after.elim
/-! ### NoOffer -/
def clsBody (s : Stmt) : List Stmt := match s with
  | .ClassDef _ _ _ b _ _ _ _ _ _ _ => b
  | _ => []
abbrev s_ninit : Stmt := (clsBody (topS 2)).getD 0 (.Pass ⟨0, 0, 0, 0⟩)
theorem sc_ninit : FnScope ["self", "place"] ["self", "place"] (defScope s_ninit) := ⟨rfl, rfl, rfl, by decide +kernel, rfl, by decide +kernel, by decide +kernel⟩
/-- what the written part says of the refusal's class, at C, of its base, at CP, and of its __init__, at fI -/
structure Exs (K : PySem.W.Frag) (mg : Str → Option Value) (C CP fI : Addr) (fdI : FuncData) : Prop where
  gN : mg "NoOffer" = some (.ref C)
  gP : mg "PackError" = some (.ref CP)
  oex : OexC K C
  rP : PySem.W.readsIn K CP (.type "type") = true
  gaP : PySem.W.specialIn K (.ref CP) "__getattribute__" = some (some (.builtin "type.__getattribute__"))
  vP : PySem.W.findCls K (.ref CP) (.type "type") "__init__" = some (.val (.builtin "ValueError.__init__"))
  np : PySem.W.findIn K (.ref C) "place" = some none
  iC : PySem.W.findIn K (.ref C) "__init__" = some (some (.ref fI))
  tI : PySem.W.typeIn K (.ref fI) = some (.type "function")
  F : Fun K "__init__" "NoOffer.__init__" s_ninit fI fdI
  b : Binds K fdI ["self", "place"] []
  exc : ExcC K C
  xf : XfC K C
theorem lt100_log {n : Nat} (h : n < 100) : ((n : Nat) : Int).natAbs.log2 < 1920 := by
  have h1 : n < 2 ^ 7 := Nat.lt_trans h (by decide)
  rw [Int.natAbs_natCast]
  by_cases z : n = 0
  · rw [z]
    decide
  · have := (Nat.log2_lt z).mpr h1
    omega
theorem lt100_len {n : Nat} (h : n < 100) : (Str.ofString (toString ((n : Nat) : Int))).length ≤ 2 := by
  have : ∀ n, n < 100 → (Str.ofString (toString ((n : Nat) : Int))).length ≤ 2 := by decide +kernel
  exact this n h
theorem strE_len (x y : Str) : (x ++ y).length = x.length + y.length := by
  show (x ++ y).cps.size = x.cps.size + y.cps.size
  rw [Str.cps_append, Array.size_append]
def tJoinedE (ts : List TE) : TE := fun σ H Q => tJs ts Str.empty σ H fun out H1 => Q (.str out) H1
theorem pe_joinedE {X : Cx} {v1 v2 : Expr} {rest : List Expr} {ts : List TE} {pos : Pos} (h : PJ X (v1 :: v2 :: rest) ts) : PE X (.JoinedStr (v1 :: v2 :: rest) pos) (tJoinedE ts) := pe_joined h
def sp_ninit (C : Addr) : Sp := fun vs H Q _ => ∃ (a : Addr) (n : Nat), vs = [.ref a, .int n] ∧ n < 100 ∧ H a = some (exo a C none) ∧ ∀ dx, H dx = none → dx ≠ a → Q .non (upd (upd H dx (exd dx [("place", .int n)])) a (exo a C (some dx)))
/-- a made refusal's heap -/
theorem made_heap {H : Hp} {a dx : Addr} {fs : List (Str × V)} {C : Addr} (ha : H a = none) (hd : H dx = none) (ne : dx ≠ a) : upd (del (upd (upd (upd H a (exo a C none)) dx (exd dx fs)) a (exo a C (some dx))) a) dx (.xd fs) = upd H dx (.xd fs) := by
  funext b
  by_cases h1 : b = dx
  · rw [h1, upd_same, upd_same]
  · rw [upd_ne h1, upd_ne h1]
    by_cases h2 : b = a
    · rw [h2, del_same, ha]
    · rw [del_ne h2, upd_ne h2, upd_ne h1, upd_ne h2]
section
variable {P : Program} {w : World} {K : PySem.W.Frag} {mg : Str → Option Value} {base : Heap} {T : List Addr} {C CP fI : Addr} {fdI : FuncData}
theorem ok_ninit {k : Nat} (X : Exs K mg C CP fI fdI) : FnOk P w K mg base CX0 (k + 1) fI fdI ["self", "place"] (sp_ninit C) := by
  refine X.F.ok sc_ninit (fun vs H Q E h => ?_) (fun cdv A outer s H vs Q E hr h => ?_)
  · obtain ⟨a, n, rfl, _⟩ := h
    rfl
  · obtain ⟨a, n, rfl, hn, ha, q⟩ := h
    refine ⟨_, pss_cons (ps_expr (pe_binit (by rfl) X.gP X.rP X.gaP X.vP (pa_cons (pv 0) (pa_cons (pe_joinedE (.cons pe_str (.cons (pe_fmt (pv 1)) (.cons pe_str .nil)))) pa_nil)))) (pss_one (ps_ost (pv 0) (pv 1))), ?_⟩
    have ln := lt100_len hn
    refine ⟨_, rfl, _, rfl, by decide +kernel, _, rfl, .inr ⟨_, rfl, lt100_log hn, _, rfl, ?_, _, rfl, ?_, ?_⟩⟩
    · rw [strE_len, strE_len]
      exact Nat.le_trans (Nat.add_le_add_left ln _) (by decide +kernel)
    · rw [strE_len, strE_len, strE_len]
      exact Nat.le_trans (Nat.add_le_add_right (Nat.add_le_add_left ln _) _) (by decide +kernel)
    · refine ⟨a, C, _, rfl, by show 1 ≤ 1000; decide, X.oex, ha, ?_⟩
      exact ⟨_, rfl, _, rfl, a, C, rfl, X.oex, X.np, .inl ⟨ha, fun dx nd ne => q dx nd ne⟩⟩
end
/-! ### names_pack, good_tiers, can_stand, look: of any shop -/
abbrev s_names_pack : Stmt := topS 10
abbrev N_names_pack : List Str := ["shop", "at", "place"]
theorem sc_names_pack : FnScope N_names_pack ["shop", "at"] (defScope s_names_pack) := ⟨rfl, rfl, rfl, by decide +kernel, rfl, by decide +kernel, by decide +kernel⟩

abbrev s_good_tiers : Stmt := topS 11
abbrev N_good_tiers : List Str := ["tiers", "begins", "begin", "price", "low", "high"]
theorem sc_good_tiers : FnScope N_good_tiers ["tiers"] (defScope s_good_tiers) := ⟨rfl, rfl, rfl, by decide +kernel, rfl, by decide +kernel, by decide +kernel⟩

abbrev s_can_stand : Stmt := topS 12
abbrev N_can_stand : List Str := ["shop", "at", "kind"]
theorem sc_can_stand : FnScope N_can_stand ["shop", "at"] (defScope s_can_stand) := ⟨rfl, rfl, rfl, by decide +kernel, rfl, by decide +kernel, by decide +kernel⟩

abbrev s_look : Stmt := topS 13
abbrev N_look : List Str := ["shop", "at"]
theorem sc_look : FnScope N_look ["shop"] (defScope s_look) := ⟨rfl, rfl, rfl, by decide +kernel, rfl, by decide +kernel, by decide +kernel⟩

def packB (os : List Ofr) (j : Nat) : Bool := match os[j]? with
  | some (.pack _ _) => true
  | _ => false
def namesB (os : List Ofr) (i : Nat) (k : Int) : Bool := decide (0 ≤ k) && decide (k < (i : Int)) && packB os k.toNat
def begs (ts : List (Int × Int)) : List Int := ts.map (·.1)
def riseB (bs : List Int) : Bool := (List.range (min bs.length (bs.drop 1).length)).all fun i => decide (bs.getD i 0 < (bs.drop 1).getD i 0)
def goodB (ts : List (Int × Int)) : Bool := decide (1 ≤ ts.length) && decide (ts.length ≤ 4) && decide ((begs ts).getD 0 0 = 1) && decide ((begs ts).getD (ts.length - 1) 0 ≤ 12) && riseB (begs ts)
def standO (os : List Ofr) (i : Nat) : Ofr → Bool
  | .add _ _ k => namesB os i k
  | .many _ ts => goodB ts
  | .pack _ _ => true
def standB (os : List Ofr) (i : Nat) : Bool := match os[i]? with
  | some o => standO os i o
  | none => true
def firstBad (os : List Ofr) : Option Nat := (List.range os.length).find? fun i => !standB os i
def SizeO (n : Nat) (os : List Ofr) : Prop := ∀ c ts, Ofr.many c ts ∈ os → ts.length ≤ n
theorem standB_at {os : List Ofr} {i : Nat} {o : Ofr} (h : os[i]? = some o) : standB os i = standO os i o := by
  unfold standB
  rw [h]
def sp_names_pack : Sp := fun vs H Q _ => ∃ (a : Addr) (os : List Ofr) (i : Nat) (c : List Int) (p k : Int), vs = [.ref a, .int i] ∧ ShopAt H a os ∧ os[i]? = some (.add c p k) ∧ Q (.bl (namesB os i k)) H
def sp_good_tiers (T : List Addr) : Sp := fun vs H Q _ => ∃ (a : Addr) (ts : List (Int × Int)), vs = [.ref a] ∧ TiersAt H a ts ∧ ts.length ≤ 1000 ∧ Tb T H ∧ ∀ H', Ext T H H' → Q (.bl (goodB ts)) H'
def sp_can_stand (T : List Addr) : Sp := fun vs H Q _ => ∃ (a : Addr) (os : List Ofr) (i : Nat), vs = [.ref a, .int i] ∧ ShopAt H a os ∧ SizeO 1000 os ∧ i < os.length ∧ Tb T H ∧ ∀ H', Ext T H H' → Q (.bl (standB os i)) H'
def sp_look (C : Addr) (T : List Addr) : Sp := fun vs H Q E => ∃ (a : Addr) (os : List Ofr), vs = [.ref a] ∧ ShopAt H a os ∧ SizeO 1000 os ∧ os.length ≤ 99 ∧ Tb T H ∧ (firstBad os = none → ∀ H', Ext T H H' → Q .non H') ∧
  ∀ n, firstBad os = some n → ∀ H' d, Ext T H H' → H d = none → H' d = some (.xd [("place", .int (n : Nat))]) → E (.ref C) (some d) H'
theorem find_range_none {p : Nat → Bool} {n : Nat} (h : ∀ i, i < n → p i = false) : (List.range n).find? p = none := by
  rw [List.find?_eq_none]
  intro i hi
  rw [h i (List.mem_range.mp hi)]
  decide
theorem find_range_some {p : Nat → Bool} : ∀ {n i : Nat}, i < n → (∀ j, j < i → p j = false) → p i = true → (List.range n).find? p = some i
  | n + 1, i, hi, h, hp => by
    rw [List.range_succ, List.find?_append]
    by_cases z : i < n
    · rw [find_range_some z h hp]
      rfl
    · have e : i = n := by omega
      subst e
      rw [find_range_none h]
      simp [hp]
section
variable {P : Program} {w : World} {K : PySem.W.Frag} {mg : Str → Option Value} {base : Heap} {T : List Addr}
theorem ok_names_pack {f : Addr} {fd : FuncData} {k : Nat} (D : Def K mg "names_pack" s_names_pack ["shop", "at"] f fd) : FnOk P w K mg base CX0 (k + 1) f fd ["shop", "at"] sp_names_pack := by
  refine D.F.ok sc_names_pack (fun vs H Q E h => ?_) (fun cdv A outer s H vs Q E hr h => ?_)
  · obtain ⟨a, os, i, c, p, k, rfl, _⟩ := h
    rfl
  · obtain ⟨a, os, i, c, p, k, rfl, ⟨vs, h1, h2, h3⟩, hi, q⟩ := h
    have li : i < os.length := (List.getElem?_eq_some_iff.mp hi).1
    obtain ⟨v, o, g1, g2, g3⟩ := ShopAt.get (H := H) (a := a) h2 li
    cases Option.some.inj (g2.symm.trans hi)
    obtain ⟨b, hb, _⟩ := h3 i v _ g1 g2
    refine ⟨_, (pss_cons (ps_set (i := 2) sc_names_pack.nd rfl (Or.inl rfl) (pe_ix ix_tup (pe_ix ix_list (pv 0) (pv 1) (fun _ _ => rfl)) pe_int (fun _ _ => rfl)))
  (pss_one (ps_ret (pe_and (pe_chain op_le op_lt pe_int (pv 2) (pv 1)) (pe_one (pe_cmpR op_eq (pe_ix ix_tup (pe_ix ix_list (pv 0) (pv 2) (fun _ _ => rfl)) pe_int (fun _ _ => rfl)) pe_str (nomark _))))))), ?_⟩
    refine ⟨_, rfl, _, rfl, a, _, _, _, rfl, rfl, SqL.of h1, atI_nat g3, v, _, _, _, rfl, rfl, SqT.of hb, atI_nat (j := 3) rfl, ?_⟩
    unfold namesB at q
    by_cases k0 : 0 ≤ k
    · rw [decide_eq_true k0, Bool.true_and] at q
      by_cases k1 : k < (i : Int)
      · rw [decide_eq_true k1, Bool.true_and] at q
        obtain ⟨j, rfl⟩ := Int.eq_ofNat_of_zero_le k0
        obtain ⟨v', o', g4, g5, g6⟩ := ShopAt.get (H := H) (a := a) h2 (show j < os.length by omega)
        obtain ⟨b', r', hb', _⟩ := (h3 j v' o' g4 g5).head
        refine ⟨_, rfl, _, _, rfl, rfl, true, (by show V.bl _ = V.bl _; rw [decide_eq_true k0]), _, rfl, _, _, rfl, rfl, true, (by show V.bl _ = V.bl _; rw [decide_eq_true k1]), ?_⟩
        refine ⟨_, rfl, _, rfl, a, _, _, _, rfl, rfl, SqL.of h1, atI_nat g6, v', _, _, _, rfl, rfl, SqT.of hb', atI_nat (j := 0) rfl, rfl, ?_⟩
        rw [Int.toNat_natCast] at q
        unfold packB at q
        rw [g5] at q
        cases o' with
        | pack c' p' => exact q
        | many c' ts' => exact q
        | add c' p' k' => exact q
      · rw [decide_eq_false k1, Bool.false_and] at q
        exact ⟨_, rfl, _, _, rfl, rfl, true, (by show V.bl _ = V.bl _; rw [decide_eq_true k0]), _, rfl, _, _, rfl, rfl, false, (by show V.bl _ = V.bl _; rw [decide_eq_false k1]), q⟩
    · rw [decide_eq_false k0, Bool.false_and, Bool.false_and] at q
      exact ⟨_, rfl, _, _, rfl, rfl, false, (by show V.bl _ = V.bl _; rw [decide_eq_false k0]), false, rfl, q⟩
theorem ok_good_tiers {f c t : Addr} {fd : FuncData} {k : Nat} (M : Names mg) (D : Def K mg "good_tiers" s_good_tiers ["tiers"] f fd) (hc : fd.code = .ref c) (TB : GxR.TabB base mg c t) (ht : t ∈ T) : FnOk P w K mg base CX0 (k + 1) f fd ["tiers"] (sp_good_tiers T) := by
  obtain ⟨t4, m_MOST_TIERS⟩ := M.c_MOST_TIERS
  obtain ⟨t12, m_MOST_PIECES⟩ := M.c_MOST_PIECES
  refine okc D.F hc sc_good_tiers (fun vs H Q E h => ?_) (fun cdv A outer s H vs Q E ec hr h => ?_)
  · obtain ⟨a, ts, rfl, _⟩ := h
    rfl
  · obtain ⟨a, ts, rfl, ⟨us, h1, h2, h3⟩, l1000, hT, q⟩ := h
    refine ⟨_, (pss_cons (ps_setLc (i := 1) (own := [("begin", 2), ("price", 3)]) (by rfl) sc_good_tiers.nd rfl rfl (sw_true rfl rfl rfl (by decide +kernel)) (pi_list (pv 0)) (blkOk_by (own := [("begin", 2), ("price", 3)]) (N := N_good_tiers) (sc := defScope s_good_tiers) (by decide +kernel)) (fun _ _ _ _ _ => (pg_tupK (K := K) (n := 2) rfl rfl (pgs_cons (pg_name (i := 2) sc_good_tiers.nd rfl (Or.inl rfl)) (pgs_cons (pg_name (i := 3) sc_good_tiers.nd rfl (Or.inl rfl)) pgs_nil)))) (fun _ _ _ _ _ => pts_nil) (fun _ _ _ _ _ => (pv 2)))
  (pss_cons (ps_if (pt_not (pt_chain op_le op_le pe_int (pe_callB call_len_seq (by rfl) M.len (by decide +kernel) (pa_cons (pv 1) pa_nil)) (pe_glob (v := .int 4) (by rfl) m_MOST_TIERS ⟨_, rfl⟩)))
   (pss_one (ps_ret pe_bl))
   pss_nil)
  (pss_cons (ps_if (PW.pt (pw_or (pt_cmpR op_ne (pe_ix ix_list (pv 1) pe_int (fun _ _ => rfl)) pe_int (nomark _)) (pw_or1 (pt_cmpR op_gt (pe_ix ix_list (pv 1) (pe_un un_neg pe_int) (fun _ _ => rfl)) (pe_glob (v := .int 12) (by rfl) m_MOST_PIECES ⟨_, rfl⟩) (nomark _)))))
   (pss_one (ps_ret pe_bl))
   pss_nil)
  (pss_one (ps_ret (pe_allZip hr (by rfl) M.all (by decide +kernel) (by rfl) M.zip TB ec ⟨rfl, rfl, by decide +kernel, rfl, rfl, rfl, by decide, (by show ∀ y : Str × NameKind, y ∈ _ → y.2 = .free → (defScope s_good_tiers).names.lookup y.1 = some .cell; decide +kernel)⟩ (pv 1) (pe_slice sl_list (pv 1) (po_some pe_int) po_none) (by decide) (by decide))))))), ?_⟩
    refine ⟨_, rfl, a, rfl, ⟨_, SqL.of h1⟩, fun B nB => lc_list (xs := us.map V.ref) (fun i H' => Same H H' ∧ H' B = some (LI ((ts.take i).map (·.1)))) ⟨same_upd nB, upd_same⟩ (fun i H' _ hp => SqL.of (hp.1 _ _ h1)) (fun i x H1 hx hp => ?_) (fun H1 hp => ?_)⟩
    · obtain ⟨s1, hB⟩ := hp
      rw [List.getElem?_map] at hx
      cases hu : us[i]? with
      | none => rw [hu] at hx; cases hx
      | some u =>
        rw [hu] at hx
        cases Option.some.inj hx
        have hi : i < ts.length := by
          have := (List.getElem?_eq_some_iff.mp hu).1
          omega
        have gt := List.getElem?_eq_getElem hi
        refine ⟨u, _, rfl, SqT.of (s1 _ _ (h3 i u _ hu gt)), rfl, _, _, rfl, _, _, rfl, rfl, rfl, _, rfl, _, hB, szL' (by rw [List.length_map, List.length_map, List.length_take]; omega), sm_new s1 nB, ?_⟩
        rw [take_succ_at gt, List.map_append]
        exact at_app
    · obtain ⟨s1, hB⟩ := hp
      rw [List.length_map, h2, List.take_length] at hB
      have hB : H1 B = some (LI (begs ts)) := hB
      have lbs : (begs ts).length = ts.length := List.length_map ..
      have hE : Ext T H H1 := .same s1 hT
      unfold goodB at q
      by_cases c1 : 1 ≤ ts.length
      · by_cases c2 : ts.length ≤ 4
        · rw [decide_eq_true c1, decide_eq_true c2, Bool.true_and, Bool.true_and] at q
          refine ⟨_, rfl, B, _, rfl, .inl (SqL.of hB), _, _, rfl, rfl, true, (by show V.bl _ = V.bl _; rw [decide_eq_true (by rw [List.length_map, lbs]; omega)]), _, _, rfl, rfl, true, (by show V.bl _ = V.bl _; rw [decide_eq_true (by rw [List.length_map, lbs]; omega)]), ?_⟩
          have k2 : (begs ts)[0]? = some ((begs ts).getD 0 0) := by rw [List.getD_eq_getElem?_getD, List.getElem?_eq_getElem (by omega)]; rfl
          have k4 : (begs ts)[ts.length - 1]? = some ((begs ts).getD (ts.length - 1) 0) := by rw [List.getD_eq_getElem?_getD, List.getElem?_eq_getElem (by omega)]; rfl
          generalize (begs ts).getD 0 0 = b0 at q k2
          generalize (begs ts).getD (ts.length - 1) 0 = b1 at q k4
          by_cases c3 : b0 = 1
          · rw [decide_eq_true c3, Bool.true_and] at q
            refine ⟨_, rfl, B, _, _, _, rfl, rfl, SqL.of hB, atI_nat (j := 0) (get_ints k2), rfl, _, rfl, iteNS (by rw [c3]) ?_⟩
            have hneg : atI ((begs ts).map V.int) (-1) = some (.int b1) := by
              have e : (begs ts).map V.int = ((begs ts).map V.int).take (ts.length - 1) ++ [.int b1] := by
                rw [← take_succ_at (get_ints k4), show ts.length - 1 + 1 = ts.length by omega]
                exact (List.take_of_length_le (by rw [List.length_map, lbs]; exact Nat.le_refl _)).symm
              rw [e]
              exact atI_last _ _
            refine ⟨_, rfl, 1, rfl, B, _, -1, _, rfl, rfl, SqL.of hB, hneg, _, _, rfl, rfl, _, rfl, ?_⟩
            by_cases c4 : b1 ≤ 12
            · rw [decide_eq_true c4, Bool.true_and] at q
              rw [decide_eq_false (by omega)]
              refine ⟨_, rfl, _, rfl, 1, rfl, B, _, rfl, SqL.of hB, fun z nz => ⟨B, z, begs ts, (begs ts).drop 1, rfl, rfl, SqL.of ((same_upd nz) _ _ hB), SqL.of (by rw [upd_same]; congr 2; rw [List.map_drop]; exact cut1 _), (hE.new (s1.free nz)).t1 t ht, fun H3 t3 => ?_⟩⟩
              exact q H3 ((hE.new (s1.free nz)).trans (.tabbed (hE.new (s1.free nz)).t1 t3 ht))
            · rw [decide_eq_false c4, Bool.false_and] at q
              rw [decide_eq_true (by omega)]
              exact q H1 hE
          · rw [decide_eq_false c3, Bool.false_and, Bool.false_and] at q
            refine ⟨_, rfl, B, _, _, _, rfl, rfl, SqL.of hB, atI_nat (j := 0) (get_ints k2), rfl, true, ?_, q H1 hE⟩
            show V.bl (!decide (V.int b0 = V.int 1)) = V.bl true
            rw [decide_eq_false (fun z => c3 (V.int.inj z))]
            rfl
        · rw [decide_eq_false c2, Bool.and_false, Bool.false_and, Bool.false_and, Bool.false_and] at q
          exact ⟨_, rfl, B, _, rfl, .inl (SqL.of hB), _, _, rfl, rfl, true, (by show V.bl _ = V.bl _; rw [decide_eq_true (by rw [List.length_map, lbs]; omega)]), _, _, rfl, rfl, false, (by show V.bl _ = V.bl _; rw [decide_eq_false (by rw [List.length_map, lbs]; omega)]), q H1 hE⟩
      · rw [decide_eq_false c1, Bool.false_and, Bool.false_and, Bool.false_and, Bool.false_and] at q
        exact ⟨_, rfl, B, _, rfl, .inl (SqL.of hB), _, _, rfl, rfl, false, (by show V.bl _ = V.bl _; rw [decide_eq_false (by rw [List.length_map, lbs]; omega)]), false, rfl, q H1 hE⟩
theorem ok_can_stand {f f1 f2 c t : Addr} {fd fd1 fd2 : FuncData} {k : Nat} (M : Names mg) (D : Def K mg "can_stand" s_can_stand ["shop", "at"] f fd) (D_names_pack : Def K mg "names_pack" s_names_pack ["shop", "at"] f1 fd1) (D_good_tiers : Def K mg "good_tiers" s_good_tiers ["tiers"] f2 fd2)
    (hc : fd2.code = .ref c) (TB : GxR.TabB base mg c t) (ht : t ∈ T) : FnOk P w K mg base CX0 (k + 2) f fd ["shop", "at"] (sp_can_stand T) := by
  have G_names_pack : FnOk P w K mg base CX0 (k + 1) f1 fd1 ["shop", "at"] sp_names_pack := ok_names_pack D_names_pack
  have G_good_tiers : FnOk P w K mg base CX0 (k + 1) f2 fd2 ["tiers"] (sp_good_tiers T) := ok_good_tiers M D_good_tiers hc TB ht
  refine D.F.ok sc_can_stand (fun vs H Q E h => ?_) (fun cdv A outer s H vs Q E hr h => ?_)
  · obtain ⟨a, os, i, rfl, _⟩ := h
    rfl
  · obtain ⟨a, os, i, rfl, ⟨vs, h1, h2, h3⟩, sz, hi, hT, q⟩ := h
    obtain ⟨v, o, g1, g2, g3⟩ := ShopAt.get (H := H) (a := a) h2 hi
    have ho := h3 i v o g1 g2
    rw [standB_at g2] at q
    refine ⟨_, (pss_cons (ps_set (i := 2) sc_can_stand.nd rfl (Or.inl rfl) (pe_ix ix_tup (pe_ix ix_list (pv 0) (pv 1) (fun _ _ => rfl)) pe_int (fun _ _ => rfl)))
  (pss_cons (ps_if (pt_cmpR op_eq (pv 2) pe_str (nomark _))
   (pss_one (ps_ret (pe_call G_names_pack hr (by rfl) D_names_pack.g D_names_pack.F.kp D_names_pack.b .nil pass0 (pa_cons (pv 0) (pa_cons (pv 1) pa_nil)))))
   pss_nil)
  (pss_cons (ps_if (pt_cmpR op_eq (pv 2) pe_str (nomark _))
   (pss_one (ps_ret (pe_call G_good_tiers hr (by rfl) D_good_tiers.g D_good_tiers.F.kp D_good_tiers.b .nil pass0 (pa_cons (pe_ix ix_tup (pe_ix ix_list (pv 0) (pv 1) (fun _ _ => rfl)) pe_int (fun _ _ => rfl)) pa_nil))))
   pss_nil)
  (pss_one (ps_ret pe_bl))))), ?_⟩
    cases o with
    | pack c p =>
      obtain ⟨b, hb, _⟩ := ho
      refine ⟨_, rfl, _, rfl, a, _, _, _, rfl, rfl, SqL.of h1, atI_nat g3, v, _, _, _, rfl, rfl, SqT.of hb, atI_nat (j := 0) rfl, ?_⟩
      refine ⟨_, rfl, rfl, false, rfl, ?_⟩
      refine ⟨_, rfl, rfl, false, rfl, ?_⟩
      exact q H (.refl hT)
    | many c ts =>
      obtain ⟨b, t', hb, _, hts⟩ := ho
      refine ⟨_, rfl, _, rfl, a, _, _, _, rfl, rfl, SqL.of h1, atI_nat g3, v, _, _, _, rfl, rfl, SqT.of hb, atI_nat (j := 0) rfl, ?_⟩
      refine ⟨_, rfl, rfl, false, rfl, ?_⟩
      refine ⟨_, rfl, rfl, true, rfl, ?_⟩
      exact ⟨_, rfl, _, rfl, a, _, _, _, rfl, rfl, SqL.of h1, atI_nat g3, v, _, _, _, rfl, rfl, SqT.of hb, atI_nat (j := 2) rfl, t', ts, rfl, hts, sz c ts (List.mem_of_getElem? g2), hT, q⟩
    | add c p kk =>
      obtain ⟨b, hb, _⟩ := ho
      refine ⟨_, rfl, _, rfl, a, _, _, _, rfl, rfl, SqL.of h1, atI_nat g3, v, _, _, _, rfl, rfl, SqT.of hb, atI_nat (j := 0) rfl, ?_⟩
      refine ⟨_, rfl, rfl, true, rfl, ?_⟩
      exact ⟨_, rfl, _, rfl, a, os, i, c, p, kk, rfl, ⟨vs, h1, h2, h3⟩, g2, q H (.refl hT)⟩
theorem ok_look {f f0 f1 f2 c t C CP fI : Addr} {fd fd0 fd1 fd2 fdI : FuncData} {k : Nat} (M : Names mg) (X : Exs K mg C CP fI fdI) (D : Def K mg "look" s_look ["shop"] f fd) (D_can_stand : Def K mg "can_stand" s_can_stand ["shop", "at"] f0 fd0) (D_names_pack : Def K mg "names_pack" s_names_pack ["shop", "at"] f1 fd1) (D_good_tiers : Def K mg "good_tiers" s_good_tiers ["tiers"] f2 fd2)
    (hc : fd2.code = .ref c) (TB : GxR.TabB base mg c t) (ht : t ∈ T) : FnOk P w K mg base (L2.CX P w) (k + 3) f fd ["shop"] (sp_look C T) := by
  have G_can_stand : FnOk P w K mg base CX0 (k + 2) f0 fd0 ["shop", "at"] (sp_can_stand T) := ok_can_stand M D_can_stand D_names_pack D_good_tiers hc TB ht
  have GI : FnOk P w K mg base CX0 (k + 1) fI fdI ["self", "place"] (sp_ninit C) := ok_ninit X
  refine D.F.okX sc_look (fun vs H Q E h => ?_) (fun cdv A outer s H vs Q E hr h => ?_)
  · obtain ⟨a, os, rfl, _⟩ := h
    rfl
  · obtain ⟨a, os, rfl, hS, sz, l99, hT, q, qE⟩ := h
    obtain ⟨vs, h1, h2, h3⟩ := id hS
    refine ⟨_, pss_one (ps_for (passes_of rfl) rfl (pi_range1 (by rfl) M.range (pa_cons (pe_callB call_len_seq (by rfl) M.len (by decide +kernel) (pa_cons (pv 0) pa_nil)) pa_nil)) (pg_name (i := 1) sc_look.nd rfl (Or.inl rfl))
      (pss_one (ps_if (pt_not (pt_val (pe_call G_can_stand hr (by rfl) D_can_stand.g D_can_stand.F.kp D_can_stand.b .nil pass0 (pa_cons (pv 0) (pa_cons (pv 1) pa_nil)))))
        (pss_one (ps_raise rfl (takes_of rfl rfl rfl rfl) (pmk_oex X.oex X.iC X.tI GI hr X.b .nil pass0 (by rfl) X.gN (pa_cons (pv 1) pa_nil))))
        pss_nil))), ?_⟩
    refine ⟨_, rfl, a, _, rfl, .inl (SqL.of h1), _, rfl, by omega, by rw [List.length_map]; omega, for_range (n := (((vs.map V.ref).length : Nat) : Int).toNat) (fun i σ H' => ∃ y1, σ = [some (.ref a), y1] ∧ Ext T H H' ∧ ∀ j, j < i → standB os j = true) ⟨none, rfl, .refl hT, fun j hj => absurd hj (Nat.not_lt_zero _)⟩ (fun i σ H1 hi hp => ?_) (fun σ H1 hp => ?_)⟩
    · obtain ⟨y1, rfl, e1, all⟩ := hp
      rw [Int.toNat_natCast, List.length_map, h2] at hi
      refine ⟨_, rfl, _, rfl, a, os, i, by show [V.ref a, V.int (0 + (i : Int))] = _; rw [Int.zero_add], hS.ext e1, sz, hi, e1.t1, fun H2 e2 => ?_⟩
      have E2 := e1.trans e2
      cases hb : standB os i with
      | true =>
        refine ⟨true, rfl, _, rfl, E2, fun j hj => ?_⟩
        by_cases z : j = i
        · rw [z]
          exact hb
        · exact all j (by omega)
      | false =>
        have fb : firstBad os = some i := find_range_some hi (fun j hj => by rw [all j hj]; rfl) (by rw [hb]; rfl)
        refine ⟨false, rfl, _, rfl, by show 1 ≤ 1000; decide, fun x nx => ?_⟩
        refine ⟨x, i, by show [V.ref x, V.int (0 + (i : Int))] = _; rw [Int.zero_add], by omega, upd_same, fun dx nd ne => ⟨rfl, dx, [("place", .int (i : Nat))], upd_same, ?_, ?_, ?_⟩⟩
        · rw [upd_ne ne, upd_same]
        · rw [upd_ne ne] at nd
          exact nd
        · rw [upd_ne ne] at nd
          rw [made_heap nx nd ne]
          exact qE i fb _ dx (E2.new (E2.free _ nd)) (E2.free _ nd) upd_same
    · obtain ⟨y1, rfl, e1, all⟩ := hp
      rw [Int.toNat_natCast, List.length_map, h2] at all
      exact q (find_range_none fun i hi => by rw [all i hi]; rfl) H1 e1
end
/-! ### defs that refuse a shop -/
section
variable {X : Cx}
/-- what is never reached -/
theorem pe_never {e : Expr} : PE X e (fun _ _ _ => False) := ⟨fun _ _ _ _ _ _ h => h.elim⟩
theorem pa_never {es : List Expr} : PA X es (fun _ _ _ => False) := ⟨fun _ _ _ _ _ _ _ h => h.elim⟩
/-- a statement that is not left but by a return or a refusal -/
theorem pss_dead {st : Stmt} {rest : List Stmt} {t : TS} (h1 : PS X st t) : PSs X (st :: rest) (fun D σ H => t { D with nx := fun _ _ => False } σ H) := by
  refine ⟨fun pins s σ H D I h => ?_⟩
  refine wpAny_execs_cons (thn (h1.run pins s σ H _ I h) fun f s1 q => ?_)
  cases f with
  | next =>
    obtain ⟨_, _, _, q⟩ := q
    exact q.elim
  | ret v => exact q
  | brk => exact q
  | cont => exact q
/-- f(e, ..), e refuses -/
theorem pe_callDead {x : Str} {f : Addr} {e : Expr} {es : List Expr} {ta : TA} {p pos : Pos} (hg : Gl X x) (hm : X.mg x = some (.ref f)) (hk : PySem.W.keepIn X.K (.ref f) = true) (ha : PA X (e :: es) ta)
    (hdb : (x == ("__debug__" : Str)) = false := by decide) (he : starEach (e :: es) X.env = (false, eval e X.env) :: starEach es X.env := by rfl) (hpl : (backTo pos (starEach es X.env)).any (·.1) = false := by rfl) :
    PE X (.Call (.Name x p) (e :: es) [] pos) (fun σ H _ => ta σ H fun _ _ => False) := by
  refine ⟨fun pins s σ H Q I h => ?_⟩
  refine wpAny_Call_Name_kw (ld_glob I hg hm ?_ hdb)
  refine PySem.W.callWith_K (h₀ := X.base) I.ok.mod.kin hk (thn (ha.run pos pins s σ H _ I h) fun us s1 ⟨vs, H1, I1, r, q⟩ => q.elim) he hpl
end
/-- the shop at place i of m arguments is refused -/
def sp_ref (C : Addr) (T : List Addr) (i m : Nat) : Sp := fun vs H _ E => ∃ (a : Addr) (os : List Ofr) (n : Nat), vs.length = m ∧ vs[i]? = some (.ref a) ∧ ShopAt H a os ∧ SizeO 1000 os ∧ os.length ≤ 99 ∧ firstBad os = some n ∧ Tb T H ∧
  ∀ H' d, Ext T H H' → H d = none → H' d = some (.xd [("place", .int (n : Nat))]) → E (.ref C) (some d) H'
theorem args1 {vs : List V} {x : V} (h : vs.length = 1) (g : vs[0]? = some x) : vs = [x] := by
  match vs, h with
  | [a], _ => cases Option.some.inj g; rfl
theorem args2 {vs : List V} {x : V} (h : vs.length = 2) (g : vs[0]? = some x) : ∃ y, vs = [x, y] := by
  match vs, h with
  | [a, b], _ => cases Option.some.inj g; exact ⟨b, rfl⟩
theorem args2' {vs : List V} {x : V} (h : vs.length = 2) (g : vs[1]? = some x) : ∃ y, vs = [y, x] := by
  match vs, h with
  | [a, b], _ => cases Option.some.inj g; exact ⟨a, rfl⟩
theorem args3 {vs : List V} {x : V} (h : vs.length = 3) (g : vs[0]? = some x) : ∃ y z, vs = [x, y, z] := by
  match vs, h with
  | [a, b, c], _ => cases Option.some.inj g; exact ⟨b, c, rfl⟩
section
variable {P : Program} {w : World} {K : PySem.W.Frag} {mg : Str → Option Value} {base : Heap} {T : List Addr} {C : Addr}
abbrev s_lines : Stmt := topS 17
abbrev N_lines : List Str := ["shop", "place", "line"]
theorem sc_lines : FnScope N_lines ["shop"] (defScope s_lines) := ⟨rfl, rfl, rfl, by decide +kernel, rfl, by decide +kernel, by decide +kernel⟩

theorem ref_lines {f f1 : Addr} {fd fd1 : FuncData} {k : Nat} (D : Def K mg "lines" s_lines ["shop"] f fd) (D_look : Def K mg "look" s_look ["shop"] f1 fd1) (G_look : FnOk P w K mg base (L2.CX P w) k f1 fd1 ["shop"] (sp_look C T)) : FnOk P w K mg base (L2.CX P w) (k + 1) f fd ["shop"] (sp_ref C T 0 1) := by
  refine D.F.okX sc_lines (fun vs H Q E h => ?_) (fun cdv A outer s H vs Q E hr h => ?_)
  · obtain ⟨a, os, n, hl, _⟩ := h
    exact hl
  · obtain ⟨a, os, n, hl, ha, hS, sz, l99, fb, hT, qE⟩ := h
    obtain rfl := args1 hl ha
    refine ⟨_, pss_dead (ps_expr (pe_callS G_look hr (by rfl) D_look.g D_look.F.kp D_look.b (fun σ => passAt (takes_of rfl rfl rfl rfl) σ) (pa_cons (pv 0) pa_nil))), ?_⟩
    refine ⟨_, rfl, a, os, rfl, hS, sz, l99, hT, fun z => ?_, fun n' z H' d E' nd hd => ?_⟩
    · rw [fb] at z
      cases z
    · rw [fb] at z
      cases Option.some.inj z
      exact qE H' d E' nd hd
abbrev s_line_content : Stmt := topS 23
abbrev N_line_content : List Str := ["shop", "line"]
theorem sc_line_content : FnScope N_line_content ["shop", "line"] (defScope s_line_content) := ⟨rfl, rfl, rfl, by decide +kernel, rfl, by decide +kernel, by decide +kernel⟩

theorem ref_line_content {f f1 : Addr} {fd fd1 : FuncData} {k : Nat} (D : Def K mg "line_content" s_line_content ["shop", "line"] f fd) (D_look : Def K mg "look" s_look ["shop"] f1 fd1) (G_look : FnOk P w K mg base (L2.CX P w) k f1 fd1 ["shop"] (sp_look C T)) : FnOk P w K mg base (L2.CX P w) (k + 1) f fd ["shop", "line"] (sp_ref C T 0 2) := by
  refine D.F.okX sc_line_content (fun vs H Q E h => ?_) (fun cdv A outer s H vs Q E hr h => ?_)
  · obtain ⟨a, os, n, hl, _⟩ := h
    exact hl
  · obtain ⟨a, os, n, hl, ha, hS, sz, l99, fb, hT, qE⟩ := h
    obtain ⟨y, rfl⟩ := args2 hl ha
    refine ⟨_, pss_dead (ps_expr (pe_callS G_look hr (by rfl) D_look.g D_look.F.kp D_look.b (fun σ => passAt (takes_of rfl rfl rfl rfl) σ) (pa_cons (pv 0) pa_nil))), ?_⟩
    refine ⟨_, rfl, a, os, rfl, hS, sz, l99, hT, fun z => ?_, fun n' z H' d E' nd hd => ?_⟩
    · rw [fb] at z
      cases z
    · rw [fb] at z
      cases Option.some.inj z
      exact qE H' d E' nd hd
abbrev s_line_price : Stmt := topS 24
abbrev N_line_price : List Str := ["shop", "line"]
theorem sc_line_price : FnScope N_line_price ["shop", "line"] (defScope s_line_price) := ⟨rfl, rfl, rfl, by decide +kernel, rfl, by decide +kernel, by decide +kernel⟩

theorem ref_line_price {f f1 : Addr} {fd fd1 : FuncData} {k : Nat} (D : Def K mg "line_price" s_line_price ["shop", "line"] f fd) (D_look : Def K mg "look" s_look ["shop"] f1 fd1) (G_look : FnOk P w K mg base (L2.CX P w) k f1 fd1 ["shop"] (sp_look C T)) : FnOk P w K mg base (L2.CX P w) (k + 1) f fd ["shop", "line"] (sp_ref C T 0 2) := by
  refine D.F.okX sc_line_price (fun vs H Q E h => ?_) (fun cdv A outer s H vs Q E hr h => ?_)
  · obtain ⟨a, os, n, hl, _⟩ := h
    exact hl
  · obtain ⟨a, os, n, hl, ha, hS, sz, l99, fb, hT, qE⟩ := h
    obtain ⟨y, rfl⟩ := args2 hl ha
    refine ⟨_, pss_dead (ps_expr (pe_callS G_look hr (by rfl) D_look.g D_look.F.kp D_look.b (fun σ => passAt (takes_of rfl rfl rfl rfl) σ) (pa_cons (pv 0) pa_nil))), ?_⟩
    refine ⟨_, rfl, a, os, rfl, hS, sz, l99, hT, fun z => ?_, fun n' z H' d E' nd hd => ?_⟩
    · rw [fb] at z
      cases z
    · rw [fb] at z
      cases Option.some.inj z
      exact qE H' d E' nd hd
abbrev s_bought : Stmt := topS 25
abbrev N_bought : List Str := ["shop", "purchase", "content", "price", "line"]
theorem sc_bought : FnScope N_bought ["shop", "purchase"] (defScope s_bought) := ⟨rfl, rfl, rfl, by decide +kernel, rfl, by decide +kernel, by decide +kernel⟩

theorem ref_bought {f f1 : Addr} {fd fd1 : FuncData} {k : Nat} (D : Def K mg "bought" s_bought ["shop", "purchase"] f fd) (D_look : Def K mg "look" s_look ["shop"] f1 fd1) (G_look : FnOk P w K mg base (L2.CX P w) k f1 fd1 ["shop"] (sp_look C T)) : FnOk P w K mg base (L2.CX P w) (k + 1) f fd ["shop", "purchase"] (sp_ref C T 0 2) := by
  refine D.F.okX sc_bought (fun vs H Q E h => ?_) (fun cdv A outer s H vs Q E hr h => ?_)
  · obtain ⟨a, os, n, hl, _⟩ := h
    exact hl
  · obtain ⟨a, os, n, hl, ha, hS, sz, l99, fb, hT, qE⟩ := h
    obtain ⟨y, rfl⟩ := args2 hl ha
    refine ⟨_, pss_dead (ps_expr (pe_callS G_look hr (by rfl) D_look.g D_look.F.kp D_look.b (fun σ => passAt (takes_of rfl rfl rfl rfl) σ) (pa_cons (pv 0) pa_nil))), ?_⟩
    refine ⟨_, rfl, a, os, rfl, hS, sz, l99, hT, fun z => ?_, fun n' z H' d E' nd hd => ?_⟩
    · rw [fb] at z
      cases z
    · rw [fb] at z
      cases Option.some.inj z
      exact qE H' d E' nd hd
abbrev s_priced_lines : Stmt := topS 22
abbrev N_priced_lines : List Str := ["shop", "line"]
theorem sc_priced_lines : FnScope N_priced_lines ["shop"] (defScope s_priced_lines) := ⟨rfl, rfl, rfl, by decide +kernel, rfl, by decide +kernel, by decide +kernel⟩

theorem ref_priced_lines {f f1 : Addr} {fd fd1 : FuncData} {k : Nat} (D : Def K mg "priced_lines" s_priced_lines ["shop"] f fd) (D_lines : Def K mg "lines" s_lines ["shop"] f1 fd1) (G_lines : FnOk P w K mg base (L2.CX P w) k f1 fd1 ["shop"] (sp_ref C T 0 1)) : FnOk P w K mg base (L2.CX P w) (k + 1) f fd ["shop"] (sp_ref C T 0 1) := by
  refine D.F.okX sc_priced_lines (fun vs H Q E h => ?_) (fun cdv A outer s H vs Q E hr h => ?_)
  · obtain ⟨a, os, n, hl, _⟩ := h
    exact hl
  · obtain ⟨a, os, n, hl, ha, hS, sz, l99, fb, hT, qE⟩ := h
    obtain rfl := args1 hl ha
    refine ⟨_, pss_one (ps_ret (pe_lc (own := [("line", 1)]) (by rfl) sc_priced_lines.nd (pi_list (pe_callS G_lines hr (by rfl) D_lines.g D_lines.F.kp D_lines.b (fun σ => passAt (takes_of rfl rfl rfl rfl) σ) (pa_cons (pv 0) pa_nil))) (blkOk_by (own := [("line", 1)]) (N := N_priced_lines) (sc := defScope s_priced_lines) (by decide +kernel)) (fun _ _ _ _ _ => (pg_name (i := 1) sc_priced_lines.nd rfl (Or.inl rfl))) (fun _ _ _ _ _ => pts_nil) (fun _ _ _ _ _ => pe_never))), ?_⟩
    exact ⟨_, rfl, a, os, n, rfl, rfl, hS, sz, l99, fb, hT, qE⟩
abbrev s_least : Stmt := topS 34
abbrev N_least : List Str := ["shop", "want"]
theorem sc_least : FnScope N_least ["shop", "want"] (defScope s_least) := ⟨rfl, rfl, rfl, by decide +kernel, rfl, by decide +kernel, by decide +kernel⟩

abbrev s_cheapest : Stmt := topS 33

theorem ref_least {f f1 f2 : Addr} {fd fd1 fd2 : FuncData} {k : Nat} (D : Def K mg "least" s_least ["shop", "want"] f fd) (D_priced_lines : Def K mg "priced_lines" s_priced_lines ["shop"] f1 fd1) (G_priced_lines : FnOk P w K mg base (L2.CX P w) k f1 fd1 ["shop"] (sp_ref C T 0 1)) (D_cheapest : Def K mg "cheapest" s_cheapest ["priced", "want"] f2 fd2) : FnOk P w K mg base (L2.CX P w) (k + 1) f fd ["shop", "want"] (sp_ref C T 0 2) := by
  refine D.F.okX sc_least (fun vs H Q E h => ?_) (fun cdv A outer s H vs Q E hr h => ?_)
  · obtain ⟨a, os, n, hl, _⟩ := h
    exact hl
  · obtain ⟨a, os, n, hl, ha, hS, sz, l99, fb, hT, qE⟩ := h
    obtain ⟨y, rfl⟩ := args2 hl ha
    refine ⟨_, pss_one (ps_ret (pe_callDead (by rfl) D_cheapest.g D_cheapest.F.kp (pa_cons (pe_callS G_priced_lines hr (by rfl) D_priced_lines.g D_priced_lines.F.kp D_priced_lines.b (fun σ => passAt (takes_of rfl rfl rfl rfl) σ) (pa_cons (pv 0) pa_nil)) pa_never))), ?_⟩
    exact ⟨_, rfl, a, os, n, rfl, rfl, hS, sz, l99, fb, hT, qE⟩
abbrev s_cases : Stmt := topS 35
abbrev N_cases : List Str := ["shop", "want", "steps", "less", "step"]
theorem sc_cases : FnScope N_cases ["shop", "want"] (defScope s_cases) := ⟨rfl, rfl, rfl, by decide +kernel, rfl, by decide +kernel, by decide +kernel⟩

abbrev s_all_steps : Stmt := topS 32

theorem ref_cases {f f1 f2 : Addr} {fd fd1 fd2 : FuncData} {k : Nat} (D : Def K mg "cases" s_cases ["shop", "want"] f fd) (D_priced_lines : Def K mg "priced_lines" s_priced_lines ["shop"] f1 fd1) (G_priced_lines : FnOk P w K mg base (L2.CX P w) k f1 fd1 ["shop"] (sp_ref C T 0 1)) (D_all_steps : Def K mg "all_steps" s_all_steps ["priced", "want"] f2 fd2) : FnOk P w K mg base (L2.CX P w) (k + 1) f fd ["shop", "want"] (sp_ref C T 0 2) := by
  refine D.F.okX sc_cases (fun vs H Q E h => ?_) (fun cdv A outer s H vs Q E hr h => ?_)
  · obtain ⟨a, os, n, hl, _⟩ := h
    exact hl
  · obtain ⟨a, os, n, hl, ha, hS, sz, l99, fb, hT, qE⟩ := h
    obtain ⟨y, rfl⟩ := args2 hl ha
    refine ⟨_, pss_dead (ps_set (i := 2) sc_cases.nd rfl (Or.inl rfl) (pe_callDead (by rfl) D_all_steps.g D_all_steps.F.kp (pa_cons (pe_callS G_priced_lines hr (by rfl) D_priced_lines.g D_priced_lines.F.kp D_priced_lines.b (fun σ => passAt (takes_of rfl rfl rfl rfl) σ) (pa_cons (pv 0) pa_nil)) pa_never))), ?_⟩
    exact ⟨_, rfl, a, os, n, rfl, rfl, hS, sz, l99, fb, hT, qE⟩
abbrev s_shows : Stmt := topS 37
abbrev N_shows : List Str := ["shop", "want", "table", "priced", "numbers", "start", "less", "number"]
theorem sc_shows : FnScope N_shows ["shop", "want", "table"] (defScope s_shows) := ⟨rfl, rfl, rfl, by decide +kernel, rfl, by decide +kernel, by decide +kernel⟩

theorem ref_shows {f f1 : Addr} {fd fd1 : FuncData} {k : Nat} (D : Def K mg "shows" s_shows ["shop", "want", "table"] f fd) (D_priced_lines : Def K mg "priced_lines" s_priced_lines ["shop"] f1 fd1) (G_priced_lines : FnOk P w K mg base (L2.CX P w) k f1 fd1 ["shop"] (sp_ref C T 0 1)) : FnOk P w K mg base (L2.CX P w) (k + 1) f fd ["shop", "want", "table"] (sp_ref C T 0 3) := by
  refine D.F.okX sc_shows (fun vs H Q E h => ?_) (fun cdv A outer s H vs Q E hr h => ?_)
  · obtain ⟨a, os, n, hl, _⟩ := h
    exact hl
  · obtain ⟨a, os, n, hl, ha, hS, sz, l99, fb, hT, qE⟩ := h
    obtain ⟨y, z, rfl⟩ := args3 hl ha
    refine ⟨_, pss_dead (ps_set (i := 3) sc_shows.nd rfl (Or.inr rfl) (pe_callS G_priced_lines hr (by rfl) D_priced_lines.g D_priced_lines.F.kp D_priced_lines.b (fun σ => passAt (takes_of rfl rfl rfl rfl) σ) (pa_cons (pv 0) pa_nil))), ?_⟩
    exact ⟨_, rfl, a, os, n, rfl, rfl, hS, sz, l99, fb, hT, qE⟩
abbrev s_fair : Stmt := topS 60
abbrev N_fair : List Str := ["shop", "prices", "priced", "tops", "bottom"]
theorem sc_fair : FnScope N_fair ["shop", "prices"] (defScope s_fair) := ⟨rfl, rfl, rfl, by decide +kernel, rfl, by decide +kernel, by decide +kernel⟩

theorem ref_fair {f f1 : Addr} {fd fd1 : FuncData} {k : Nat} (D : Def K mg "fair" s_fair ["shop", "prices"] f fd) (D_priced_lines : Def K mg "priced_lines" s_priced_lines ["shop"] f1 fd1) (G_priced_lines : FnOk P w K mg base (L2.CX P w) k f1 fd1 ["shop"] (sp_ref C T 0 1)) : FnOk P w K mg base (L2.CX P w) (k + 1) f fd ["shop", "prices"] (sp_ref C T 0 2) := by
  refine D.F.okX sc_fair (fun vs H Q E h => ?_) (fun cdv A outer s H vs Q E hr h => ?_)
  · obtain ⟨a, os, n, hl, _⟩ := h
    exact hl
  · obtain ⟨a, os, n, hl, ha, hS, sz, l99, fb, hT, qE⟩ := h
    obtain ⟨y, rfl⟩ := args2 hl ha
    refine ⟨_, pss_dead (ps_set (i := 2) sc_fair.nd rfl (Or.inl rfl) (pe_callS G_priced_lines hr (by rfl) D_priced_lines.g D_priced_lines.F.kp D_priced_lines.b (fun σ => passAt (takes_of rfl rfl rfl rfl) σ) (pa_cons (pv 0) pa_nil))), ?_⟩
    exact ⟨_, rfl, a, os, n, rfl, rfl, hS, sz, l99, fb, hT, qE⟩
abbrev s_single_prices : Stmt := topS 62
abbrev N_single_prices : List Str := ["shop", "want", "priced", "prices", "shares", "worth", "tops", "parts", "bottom", "top", "row", "part", "line", "content", "price"]
theorem sc_single_prices : FnScope N_single_prices ["shop", "want"] (defScope s_single_prices) := ⟨rfl, rfl, rfl, by decide +kernel, rfl, by decide +kernel, by decide +kernel⟩

theorem ref_single_prices {f f1 : Addr} {fd fd1 : FuncData} {k : Nat} (D : Def K mg "single_prices" s_single_prices ["shop", "want"] f fd) (D_priced_lines : Def K mg "priced_lines" s_priced_lines ["shop"] f1 fd1) (G_priced_lines : FnOk P w K mg base (L2.CX P w) k f1 fd1 ["shop"] (sp_ref C T 0 1)) : FnOk P w K mg base (L2.CX P w) (k + 1) f fd ["shop", "want"] (sp_ref C T 0 2) := by
  refine D.F.okX sc_single_prices (fun vs H Q E h => ?_) (fun cdv A outer s H vs Q E hr h => ?_)
  · obtain ⟨a, os, n, hl, _⟩ := h
    exact hl
  · obtain ⟨a, os, n, hl, ha, hS, sz, l99, fb, hT, qE⟩ := h
    obtain ⟨y, rfl⟩ := args2 hl ha
    refine ⟨_, pss_dead (ps_set (i := 2) sc_single_prices.nd rfl (Or.inl rfl) (pe_callS G_priced_lines hr (by rfl) D_priced_lines.g D_priced_lines.F.kp D_priced_lines.b (fun σ => passAt (takes_of rfl rfl rfl rfl) σ) (pa_cons (pv 0) pa_nil))), ?_⟩
    exact ⟨_, rfl, a, os, n, rfl, rfl, hS, sz, l99, fb, hT, qE⟩
abbrev s_hold_together : Stmt := topS 67
abbrev N_hold_together : List Str := ["shop", "want", "told", "priced", "fractions", "value", "prices", "shares", "line", "share", "top", "bottom"]
theorem sc_hold_together : FnScope N_hold_together ["shop", "want", "told"] (defScope s_hold_together) := ⟨rfl, rfl, rfl, by decide +kernel, rfl, by decide +kernel, by decide +kernel⟩

theorem ref_hold_together {f f1 : Addr} {fd fd1 : FuncData} {k : Nat} (D : Def K mg "hold_together" s_hold_together ["shop", "want", "told"] f fd) (D_priced_lines : Def K mg "priced_lines" s_priced_lines ["shop"] f1 fd1) (G_priced_lines : FnOk P w K mg base (L2.CX P w) k f1 fd1 ["shop"] (sp_ref C T 0 1)) : FnOk P w K mg base (L2.CX P w) (k + 1) f fd ["shop", "want", "told"] (sp_ref C T 0 3) := by
  refine D.F.okX sc_hold_together (fun vs H Q E h => ?_) (fun cdv A outer s H vs Q E hr h => ?_)
  · obtain ⟨a, os, n, hl, _⟩ := h
    exact hl
  · obtain ⟨a, os, n, hl, ha, hS, sz, l99, fb, hT, qE⟩ := h
    obtain ⟨y, z, rfl⟩ := args3 hl ha
    refine ⟨_, pss_dead (ps_set (i := 3) sc_hold_together.nd rfl (Or.inl rfl) (pe_callS G_priced_lines hr (by rfl) D_priced_lines.g D_priced_lines.F.kp D_priced_lines.b (fun σ => passAt (takes_of rfl rfl rfl rfl) σ) (pa_cons (pv 0) pa_nil))), ?_⟩
    exact ⟨_, rfl, a, os, n, rfl, rfl, hS, sz, l99, fb, hT, qE⟩
abbrev s_spared : Stmt := topS 45
abbrev N_spared : List Str := ["shop", "priced", "told", "place", "purchase"]
theorem sc_spared : FnScope N_spared ["shop"] (defScope s_spared) := ⟨rfl, rfl, rfl, by decide +kernel, rfl, by decide +kernel, by decide +kernel⟩

theorem ref_spared {f f1 : Addr} {fd fd1 : FuncData} {k : Nat} (D : Def K mg "spared" s_spared ["shop"] f fd) (D_priced_lines : Def K mg "priced_lines" s_priced_lines ["shop"] f1 fd1) (G_priced_lines : FnOk P w K mg base (L2.CX P w) k f1 fd1 ["shop"] (sp_ref C T 0 1)) : FnOk P w K mg base (L2.CX P w) (k + 1) f fd ["shop"] (sp_ref C T 0 1) := by
  refine D.F.okX sc_spared (fun vs H Q E h => ?_) (fun cdv A outer s H vs Q E hr h => ?_)
  · obtain ⟨a, os, n, hl, _⟩ := h
    exact hl
  · obtain ⟨a, os, n, hl, ha, hS, sz, l99, fb, hT, qE⟩ := h
    obtain rfl := args1 hl ha
    refine ⟨_, pss_dead (ps_set (i := 1) sc_spared.nd rfl (Or.inl rfl) (pe_callS G_priced_lines hr (by rfl) D_priced_lines.g D_priced_lines.F.kp D_priced_lines.b (fun σ => passAt (takes_of rfl rfl rfl rfl) σ) (pa_cons (pv 0) pa_nil))), ?_⟩
    exact ⟨_, rfl, a, os, n, rfl, rfl, hS, sz, l99, fb, hT, qE⟩
abbrev s_thinned : Stmt := topS 47
abbrev N_thinned : List Str := ["shop", "priced", "places", "place"]
theorem sc_thinned : FnScope N_thinned ["shop"] (defScope s_thinned) := ⟨rfl, rfl, rfl, by decide +kernel, rfl, by decide +kernel, by decide +kernel⟩

theorem ref_thinned {f f1 : Addr} {fd fd1 : FuncData} {k : Nat} (D : Def K mg "thinned" s_thinned ["shop"] f fd) (D_priced_lines : Def K mg "priced_lines" s_priced_lines ["shop"] f1 fd1) (G_priced_lines : FnOk P w K mg base (L2.CX P w) k f1 fd1 ["shop"] (sp_ref C T 0 1)) : FnOk P w K mg base (L2.CX P w) (k + 1) f fd ["shop"] (sp_ref C T 0 1) := by
  refine D.F.okX sc_thinned (fun vs H Q E h => ?_) (fun cdv A outer s H vs Q E hr h => ?_)
  · obtain ⟨a, os, n, hl, _⟩ := h
    exact hl
  · obtain ⟨a, os, n, hl, ha, hS, sz, l99, fb, hT, qE⟩ := h
    obtain rfl := args1 hl ha
    refine ⟨_, pss_dead (ps_set (i := 1) sc_thinned.nd rfl (Or.inl rfl) (pe_callS G_priced_lines hr (by rfl) D_priced_lines.g D_priced_lines.F.kp D_priced_lines.b (fun σ => passAt (takes_of rfl rfl rfl rfl) σ) (pa_cons (pv 0) pa_nil))), ?_⟩
    exact ⟨_, rfl, a, os, n, rfl, rfl, hS, sz, l99, fb, hT, qE⟩
abbrev s_moves : Stmt := topS 53
abbrev N_moves : List Str := ["shop", "want", "place", "priced", "prices", "start", "counts", "points", "following"]
theorem sc_moves : FnScope N_moves ["shop", "want", "place"] (defScope s_moves) := ⟨rfl, rfl, rfl, by decide +kernel, rfl, by decide +kernel, by decide +kernel⟩

abbrev s_without : Stmt := topS 43

theorem ref_moves {f f1 f2 : Addr} {fd fd1 fd2 : FuncData} {k : Nat} (D : Def K mg "moves" s_moves ["shop", "want", "place"] f fd) (D_priced_lines : Def K mg "priced_lines" s_priced_lines ["shop"] f1 fd1) (G_priced_lines : FnOk P w K mg base (L2.CX P w) k f1 fd1 ["shop"] (sp_ref C T 0 1)) (D_without : Def K mg "without" s_without ["priced", "place"] f2 fd2) : FnOk P w K mg base (L2.CX P w) (k + 1) f fd ["shop", "want", "place"] (sp_ref C T 0 3) := by
  refine D.F.okX sc_moves (fun vs H Q E h => ?_) (fun cdv A outer s H vs Q E hr h => ?_)
  · obtain ⟨a, os, n, hl, _⟩ := h
    exact hl
  · obtain ⟨a, os, n, hl, ha, hS, sz, l99, fb, hT, qE⟩ := h
    obtain ⟨y, z, rfl⟩ := args3 hl ha
    refine ⟨_, pss_dead (ps_set (i := 3) sc_moves.nd rfl (Or.inl rfl) (pe_callDead (by rfl) D_without.g D_without.F.kp (pa_cons (pe_callS G_priced_lines hr (by rfl) D_priced_lines.g D_priced_lines.F.kp D_priced_lines.b (fun σ => passAt (takes_of rfl rfl rfl rfl) σ) (pa_cons (pv 0) pa_nil)) pa_never))), ?_⟩
    exact ⟨_, rfl, a, os, n, rfl, rfl, hS, sz, l99, fb, hT, qE⟩
abbrev s_show_shop : Stmt := topS 71
abbrev N_show_shop : List Str := ["names", "shop", "offer"]
theorem sc_show_shop : FnScope N_show_shop ["names", "shop"] (defScope s_show_shop) := ⟨rfl, rfl, rfl, by decide +kernel, rfl, by decide +kernel, by decide +kernel⟩

theorem ref_show_shop {f f1 : Addr} {fd fd1 : FuncData} {k : Nat} (D : Def K mg "show_shop" s_show_shop ["names", "shop"] f fd) (D_look : Def K mg "look" s_look ["shop"] f1 fd1) (G_look : FnOk P w K mg base (L2.CX P w) k f1 fd1 ["shop"] (sp_look C T)) : FnOk P w K mg base (L2.CX P w) (k + 1) f fd ["names", "shop"] (sp_ref C T 1 2) := by
  refine D.F.okX sc_show_shop (fun vs H Q E h => ?_) (fun cdv A outer s H vs Q E hr h => ?_)
  · obtain ⟨a, os, n, hl, _⟩ := h
    exact hl
  · obtain ⟨a, os, n, hl, ha, hS, sz, l99, fb, hT, qE⟩ := h
    obtain ⟨y, rfl⟩ := args2' hl ha
    refine ⟨_, pss_dead (ps_expr (pe_callS G_look hr (by rfl) D_look.g D_look.F.kp D_look.b (fun σ => passAt (takes_of rfl rfl rfl rfl) σ) (pa_cons (pv 1) pa_nil))), ?_⟩
    refine ⟨_, rfl, a, os, rfl, hS, sz, l99, hT, fun z => ?_, fun n' z H' d E' nd hd => ?_⟩
    · rw [fb] at z
      cases z
    · rw [fb] at z
      cases Option.some.inj z
      exact qE H' d E' nd hd
end
/-! ### _law_which, _law_asked_first, _law_asked, _law_refused -/
abbrev s_law_which : Stmt := topS 81
abbrev N_law_which : List Str := ["_law_e", "_law_some"]
theorem sc_law_which : FnScope N_law_which ["_law_e"] (defScope s_law_which) := ⟨rfl, rfl, rfl, by decide +kernel, rfl, by decide +kernel, by decide +kernel⟩

abbrev s_law_asked_first : Stmt := topS 82
abbrev N_law_asked_first : List Str := ["_law_way", "_law_shop_here"]
theorem sc_law_asked_first : FnScope N_law_asked_first ["_law_way", "_law_shop_here"] (defScope s_law_asked_first) := ⟨rfl, rfl, rfl, by decide +kernel, rfl, by decide +kernel, by decide +kernel⟩

abbrev s_law_asked : Stmt := topS 83
abbrev N_law_asked : List Str := ["_law_way", "_law_shop_here", "_law_want_here", "_law_noughts", "_law_number"]
theorem sc_law_asked : FnScope N_law_asked ["_law_way", "_law_shop_here", "_law_want_here"] (defScope s_law_asked) := ⟨rfl, rfl, rfl, by decide +kernel, rfl, by decide +kernel, by decide +kernel⟩

abbrev s_law_refused : Stmt := topS 84
abbrev N_law_refused : List Str := ["_law_way", "_law_shop_here", "_law_want_here", "_law_place", "_law_kept", "_law_e"]
theorem sc_law_refused : FnScope N_law_refused ["_law_way", "_law_shop_here", "_law_want_here", "_law_place"] (defScope s_law_refused) := ⟨rfl, rfl, rfl, by decide +kernel, rfl, by decide +kernel, by decide +kernel⟩

/-- what isinstance tells of the refusal at C -/
structure ExKit (K : PySem.W.Frag) (mg : Str → Option Value) (C CP : Addr) : Prop where
  l : ∃ c, mg "NoLine" = some (.ref c) ∧ PySem.W.kitOne K (.ref C) (.ref c) = some false
  p : ∃ c, mg "NoPlace" = some (.ref c) ∧ PySem.W.kitOne K (.ref C) (.ref c) = some false
  t : ∃ c, mg "NoText" = some (.ref c) ∧ PySem.W.kitOne K (.ref C) (.ref c) = some false
  h : ∃ c, mg "NoThings" = some (.ref c) ∧ PySem.W.kitOne K (.ref C) (.ref c) = some false
  v : mg "ValueError" = none
  kv : PySem.W.kitOne K (.ref C) (.type "ValueError") = some true
  kp : PySem.W.kitOne K (.ref C) (.ref CP) = some true
  kn : PySem.W.kitOne K (.ref C) (.ref C) = some true
  ex : PySem.W.exmOne K (.ref C) (.ref CP) = some true
/-- xs.count(True) of truths -/
def isT : Value → Bool
  | .bool b => b
  | _ => false
theorem bools_of : ∀ {bs : List Bool} {us : List Value}, Vals (bs.map V.bl) us → us = bs.map Value.bool
  | [], [], _ => rfl
  | b :: r, [], h => by cases h
  | [], u :: us, h => by cases h
  | b :: r, u :: us, h => by
    cases h with
    | cons h1 h2 =>
      cases h1
      rw [bools_of h2]
      rfl
theorem mt_countB {X : Cx} : MtR X "list.count" (fun x xs H Q => ∃ (p : Addr) (bs : List Bool), x = .ref p ∧ xs = [.bl true] ∧ SqL X.K H p (bs.map V.bl) ∧ Q (.int (bs.count true : Nat)) H) := by
  intro pins s σ H x xs v us Q I rx rxs h
  obtain ⟨p, bs, rfl, rfl, hs, q⟩ := h
  cases rx
  obtain ⟨u, rfl, ru⟩ := rxs.one
  cases ru
  obtain ⟨its, rv, ⟨⟨cls, dd, data, sl⟩, n, ho, hc, hdn, hd⟩, hlen⟩ := I.list hs
  simp only at hc hd
  subst hc hd
  have hi := bools_of rv
  refine call_meets PySem.F.slot_list_count ⟨_, ho, rfl⟩ PySem.F.entry_list_count (PySem.F.args_list_count_2 _ _)
    (SeqAt.list_countAt p its.toArray n dd sl (.bool true) isT) ⟨ho, fun y hy => ?_, ?_⟩
  · have hy' : y ∈ its := by simpa using hy
    rw [hi] at hy'
    obtain ⟨b, _, rfl⟩ := List.mem_map.mp hy'
    have e := eqAt_V (A := X.A.in1) (s := s) (y := .bl b) (x := .bl true) (u := .bool b) (v := .bool true) rfl rfl rfl rfl
    have e2 : eqV (.bl b) (.bl true) = isT (.bool b) := by cases b <;> rfl
    rw [e2] at e
    exact e
  · refine ⟨.int (bs.count true : Nat), H, I.tok _, ⟨s.toks, ?_⟩, q⟩
    have ec : its.toArray.toList.countP isT = bs.count true := by
      show its.countP isT = _
      rw [hi, List.countP_map, List.count]
      refine List.countP_congr fun b _ => ?_
      cases b <;> simp [isT]
    rw [ec]
def sp_which (C : Addr) : Sp := fun vs H Q _ => ∃ (a d : Addr) (fs : List (Str × V)), vs = [.ref a] ∧ H a = some (exk a (.ref C) (some d)) ∧ H d = some (.xd fs) ∧ ∀ H', Same H H' → Q (.str "offer") H'
def sp_asked (C : Addr) (T : List Addr) : Sp := fun vs H _ E => ∃ (x : Int) (a wa : Addr) (ws : List Int) (os : List Ofr) (n : Nat), vs = [.int x, .ref a, .ref wa] ∧ H wa = some (LI ws) ∧ ws.length ≤ 4 ∧ ShopAt H a os ∧ SizeO 1000 os ∧ os.length ≤ 99 ∧ firstBad os = some n ∧ Tb T H ∧
  ∀ H' d, Ext T H H' → H d = none → H' d = some (.xd [("place", .int (n : Nat))]) → E (.ref C) (some d) H'
def sp_refused (T : List Addr) : Sp := fun vs H Q _ => ∃ (x : Int) (a wa : Addr) (ws : List Int) (os : List Ofr) (n : Nat), vs = [.int x, .ref a, .ref wa, .int (n : Nat)] ∧ H wa = some (LI ws) ∧ ws.length ≤ 4 ∧ ShopAt H a os ∧ SizeO 1000 os ∧ os.length ≤ 99 ∧ firstBad os = some n ∧ Tb T H ∧ ∀ H', Ext T H H' → Q (.bl true) H'
section
variable {P : Program} {w : World} {K : PySem.W.Frag} {mg : Str → Option Value} {base : Heap} {T : List Addr} {C CP fI : Addr} {fdI : FuncData}
theorem ok_which {f : Addr} {fd : FuncData} {k : Nat} (M : Names mg) (X : Exs K mg C CP fI fdI) (Y : ExKit K mg C CP) (D : Def K mg "_law_which" s_law_which ["_law_e"] f fd) : FnOk P w K mg base CX0 (k + 1) f fd ["_law_e"] (sp_which C) := by
  obtain ⟨cl, gl, kl⟩ := Y.l
  obtain ⟨cp, gp, kp⟩ := Y.p
  obtain ⟨ct, gt, kt⟩ := Y.t
  obtain ⟨ch, gh, kh⟩ := Y.h
  refine D.F.ok sc_law_which (fun vs H Q E h => ?_) (fun cdv A outer s H vs Q E hr h => ?_)
  · obtain ⟨a, d, fs, rfl, _⟩ := h
    rfl
  · obtain ⟨a, d, fs, rfl, ha, hd, q⟩ := h
    refine ⟨_, pss_cons (ps_set (i := 1) sc_law_which.nd rfl (Or.inl rfl) (pe_lst (pa_cons (pe_callB call_isK (by rfl) M.isinstance (by decide +kernel) (pa_cons (pv 0) (pa_cons (pe_glob (v := .ref cl) (by rfl) gl rfl) pa_nil))) (pa_cons (pe_callB call_isK (by rfl) M.isinstance (by decide +kernel) (pa_cons (pv 0) (pa_cons (pe_glob (v := .ref C) (by rfl) X.gN rfl) pa_nil))) (pa_cons (pe_callB call_isK (by rfl) M.isinstance (by decide +kernel) (pa_cons (pv 0) (pa_cons (pe_glob (v := .ref cp) (by rfl) gp rfl) pa_nil))) (pa_cons (pe_callB call_isK (by rfl) M.isinstance (by decide +kernel) (pa_cons (pv 0) (pa_cons (pe_glob (v := .ref ct) (by rfl) gt rfl) pa_nil))) pa_nil))))))
      (pss_cons (ps_expr (pe_bm PySem.F.plainAttrs_list PySem.F.slot_list_append PySem.F.type_list_append mt_append (pv 1) (pa_cons (pe_callB call_isK (by rfl) M.isinstance (by decide +kernel) (pa_cons (pv 0) (pa_cons (pe_glob (v := .ref ch) (by rfl) gh rfl) pa_nil))) pa_nil)))
      (pss_cons (ps_if (PW.pt (pw_or (pt_not (pt_val (pe_callB call_isK (by rfl) M.isinstance (by decide +kernel) (pa_cons (pv 0) (pa_cons (pe_glob (v := .ref CP) (by rfl) X.gP rfl) pa_nil))))) (pw_or (pt_not (pt_val (pe_callB call_isK (by rfl) M.isinstance (by decide +kernel) (pa_cons (pv 0) (pa_cons (pe_bltn (v := .ty "ValueError") (by rfl) Y.v (by decide +kernel) rfl) pa_nil))))) (pw_or1 (pt_cmpR op_ne (pe_bm PySem.F.plainAttrs_list PySem.F.slot_list_count PySem.F.type_list_count mt_countB (pv 1) (pa_cons pe_bl pa_nil)) pe_int (nomark _))))))
        (pss_one (ps_ret pe_str)) pss_nil)
      (pss_one (ps_ret (pe_ix ix_list (pe_lst (pa_cons pe_str (pa_cons pe_str (pa_cons pe_str (pa_cons pe_str (pa_cons pe_str pa_nil)))))) (pe_bm PySem.F.plainAttrs_list PySem.F.slot_list_index PySem.F.type_list_index mt_index (pv 1) (pa_cons pe_bl pa_nil)) (fun _ _ => rfl)))))), ?_⟩
    refine ⟨_, rfl, a, C, d, _, _, _, false, rfl, ha, hd, X.exc, fun u h => h, kl, _, rfl, a, C, d, _, _, _, true, rfl, ha, hd, X.exc, fun u h => h, Y.kn, _, rfl, a, C, d, _, _, _, false, rfl, ha, hd, X.exc, fun u h => h, kp, _, rfl, a, C, d, _, _, _, false, rfl, ha, hd, X.exc, fun u h => h, kt, by show 4 ≤ sizeLine; decide, fun L nL => ?_⟩
    have s1 := same_upd (o := .lst [.bl false, .bl true, .bl false, .bl false]) nL
    have hL : upd H L (.lst [.bl false, .bl true, .bl false, .bl false]) L = some (.lst [.bl false, .bl true, .bl false, .bl false]) := upd_same
    generalize upd H L (.lst [.bl false, .bl true, .bl false, .bl false]) = H1 at s1 hL ⊢
    refine ⟨_, rfl, .inl ⟨rfl, _, SqL.of hL⟩, _, rfl, a, C, d, _, _, _, false, rfl, s1 _ _ ha, s1 _ _ hd, X.exc, fun u h => h, kh, L, _, _, rfl, rfl, hL, by show 4 < sizeLine; decide, ?_⟩
    have s2 := sm_new (o := .lst ([.bl false, .bl true, .bl false, .bl false] ++ [.bl false])) s1 nL
    have hL2 : upd H1 L (.lst ([.bl false, .bl true, .bl false, .bl false] ++ [.bl false])) L = some (.lst [.bl false, .bl true, .bl false, .bl false, .bl false]) := upd_same
    generalize upd H1 L (.lst ([.bl false, .bl true, .bl false, .bl false] ++ [.bl false])) = H2 at s2 hL2 ⊢
    have ha2 := s2 _ _ ha
    have hd2 := s2 _ _ hd
    refine ⟨_, rfl, a, C, d, _, _, _, true, rfl, ha2, hd2, X.exc, fun u h => h, Y.kp, true, rfl, ?_⟩
    refine ⟨_, rfl, a, C, d, _, _, _, true, rfl, ha2, hd2, X.exc, fun u h => h, Y.kv, true, rfl, ?_⟩
    refine ⟨_, rfl, .inl ⟨rfl, _, SqL.of hL2⟩, L, [false, true, false, false, false], rfl, rfl, SqL.of hL2, rfl, false, rfl, ?_⟩
    refine ⟨by show 5 ≤ sizeLine; decide, fun W nW => ?_⟩
    have sW := same_upd (o := .lst [.str "line", .str "offer", .str "place", .str "text", .str "things"]) nW
    refine ⟨_, rfl, .inl ⟨rfl, _, SqL.of (sW _ _ hL2)⟩, L, _, .bl true, 1, .bl true, rfl, rfl, SqL.of (sW _ _ hL2), rfl, rfl, rfl, rfl, fun m z hm hz => ?_, ?_⟩
    · have : m = 0 := by omega
      subst this
      cases Option.some.inj hz
      rfl
    · exact ⟨W, _, _, _, rfl, rfl, SqL.of upd_same, atI_nat (j := 1) rfl, q _ (s2.trans sW)⟩
theorem ok_asked_first {f f1 f2 f3 f4 f5 f6 : Addr} {fd fd1 fd2 fd3 fd4 fd5 fd6 : FuncData} {k : Nat} (M : Names mg) (D : Def K mg "_law_asked_first" s_law_asked_first ["_law_way", "_law_shop_here"] f fd)
    (D_lines : Def K mg "lines" s_lines ["shop"] f1 fd1) (G_lines : FnOk P w K mg base (L2.CX P w) k f1 fd1 ["shop"] (sp_ref C T 0 1)) (D_line_content : Def K mg "line_content" s_line_content ["shop", "line"] f2 fd2) (G_line_content : FnOk P w K mg base (L2.CX P w) k f2 fd2 ["shop", "line"] (sp_ref C T 0 2))
    (D_line_price : Def K mg "line_price" s_line_price ["shop", "line"] f3 fd3) (G_line_price : FnOk P w K mg base (L2.CX P w) k f3 fd3 ["shop", "line"] (sp_ref C T 0 2)) (D_bought : Def K mg "bought" s_bought ["shop", "purchase"] f4 fd4) (G_bought : FnOk P w K mg base (L2.CX P w) k f4 fd4 ["shop", "purchase"] (sp_ref C T 0 2))
    (D_spared : Def K mg "spared" s_spared ["shop"] f5 fd5) (G_spared : FnOk P w K mg base (L2.CX P w) k f5 fd5 ["shop"] (sp_ref C T 0 1)) (D_thinned : Def K mg "thinned" s_thinned ["shop"] f6 fd6) (G_thinned : FnOk P w K mg base (L2.CX P w) k f6 fd6 ["shop"] (sp_ref C T 0 1)) :
    FnOk P w K mg base (L2.CX P w) (k + 1) f fd ["_law_way", "_law_shop_here"] (fun vs H Q E => ∃ x, vs[0]? = some (.int x) ∧ sp_ref C T 1 2 vs H Q E) := by
  refine D.F.okX sc_law_asked_first (fun vs H Q E h => ?_) (fun cdv A outer s H vs Q E hr h => ?_)
  · obtain ⟨x, _, a, os, n, hl, _⟩ := h
    exact hl
  · obtain ⟨x, hx, a, os, n, hl, ha, hS, sz, l99, fb, hT, qE⟩ := h
    obtain ⟨y, rfl⟩ := args2' hl ha
    cases Option.some.inj hx
    refine ⟨_, (pss_cons (ps_if (pt_cmpR op_eq (pv 0) pe_int (nomark _))
   (pss_one (ps_ret (pe_callS G_lines hr (by rfl) D_lines.g D_lines.F.kp D_lines.b (fun σ => passAt (takes_of rfl rfl rfl rfl) σ) (pa_cons (pv 1) pa_nil))))
   pss_nil)
  (pss_cons (ps_if (pt_cmpR op_eq (pv 0) pe_int (nomark _))
   (pss_one (ps_ret (pe_callS G_line_content hr (by rfl) D_line_content.g D_line_content.F.kp D_line_content.b (fun σ => passAt (takes_of rfl rfl rfl rfl) σ) (pa_cons (pv 1) (pa_cons (pe_tup (pa_cons pe_int (pa_cons pe_int (pa_cons (pe_lst pa_nil) pa_nil)))) pa_nil)))))
   pss_nil)
  (pss_cons (ps_if (pt_cmpR op_eq (pv 0) pe_int (nomark _))
   (pss_one (ps_ret (pe_callS G_line_price hr (by rfl) D_line_price.g D_line_price.F.kp D_line_price.b (fun σ => passAt (takes_of rfl rfl rfl rfl) σ) (pa_cons (pv 1) (pa_cons (pe_tup (pa_cons pe_int (pa_cons pe_int (pa_cons (pe_lst pa_nil) pa_nil)))) pa_nil)))))
   pss_nil)
  (pss_cons (ps_if (pt_cmpR op_eq (pv 0) pe_int (nomark _))
   (pss_one (ps_ret (pe_callS G_bought hr (by rfl) D_bought.g D_bought.F.kp D_bought.b (fun σ => passAt (takes_of rfl rfl rfl rfl) σ) (pa_cons (pv 1) (pa_cons (pe_lst pa_nil) pa_nil)))))
   pss_nil)
  (pss_cons (ps_if (pt_cmpR op_eq (pv 0) pe_int (nomark _))
   (pss_one (ps_ret (pe_callS G_spared hr (by rfl) D_spared.g D_spared.F.kp D_spared.b (fun σ => passAt (takes_of rfl rfl rfl rfl) σ) (pa_cons (pv 1) pa_nil))))
   pss_nil)
  (pss_one (ps_ret (pe_callS G_thinned hr (by rfl) D_thinned.g D_thinned.F.kp D_thinned.b (fun σ => passAt (takes_of rfl rfl rfl rfl) σ) (pa_cons (pv 1) pa_nil))))))))), ?_⟩
    refine ⟨_, rfl, rfl, _, rfl, ite2 (fun _ => ?_) (fun _ => ?_)⟩
    · exact ⟨_, rfl, a, os, n, rfl, rfl, hS, sz, l99, fb, hT, qE⟩
    refine ⟨_, rfl, rfl, _, rfl, ite2 (fun _ => ?_) (fun _ => ?_)⟩
    · refine ⟨_, rfl, by decide, fun l nl => ⟨by show 3 ≤ sizeLine; decide, fun t nt => ?_⟩⟩
      have E1 : Ext T H _ := .same ((same_upd (o := .lst []) nl).trans (same_upd (o := .tup [.int 0, .int 1, .ref l]) nt)) hT
      exact ⟨a, os, n, rfl, rfl, hS.ext E1, sz, l99, fb, E1.t1, fun H' d e nd hd => qE H' d (E1.trans e) (E1.free _ nd) hd⟩
    refine ⟨_, rfl, rfl, _, rfl, ite2 (fun _ => ?_) (fun _ => ?_)⟩
    · refine ⟨_, rfl, by decide, fun l nl => ⟨by show 3 ≤ sizeLine; decide, fun t nt => ?_⟩⟩
      have E1 : Ext T H _ := .same ((same_upd (o := .lst []) nl).trans (same_upd (o := .tup [.int 0, .int 1, .ref l]) nt)) hT
      exact ⟨a, os, n, rfl, rfl, hS.ext E1, sz, l99, fb, E1.t1, fun H' d e nd hd => qE H' d (E1.trans e) (E1.free _ nd) hd⟩
    refine ⟨_, rfl, rfl, _, rfl, ite2 (fun _ => ?_) (fun _ => ?_)⟩
    · refine ⟨_, rfl, by decide, fun l nl => ?_⟩
      have E1 : Ext T H _ := .same (same_upd (o := .lst []) nl) hT
      exact ⟨a, os, n, rfl, rfl, hS.ext E1, sz, l99, fb, E1.t1, fun H' d e nd hd => qE H' d (E1.trans e) (E1.free _ nd) hd⟩
    refine ⟨_, rfl, rfl, _, rfl, ite2 (fun _ => ?_) (fun _ => ?_)⟩
    · exact ⟨_, rfl, a, os, n, rfl, rfl, hS, sz, l99, fb, hT, qE⟩
    · exact ⟨_, rfl, a, os, n, rfl, rfl, hS, sz, l99, fb, hT, qE⟩
theorem ok_asked {f f0 f1 f2 f3 f4 f5 f6 f7 f8 : Addr} {fd fd0 fd1 fd2 fd3 fd4 fd5 fd6 fd7 fd8 : FuncData} {k : Nat} (M : Names mg) (D : Def K mg "_law_asked" s_law_asked ["_law_way", "_law_shop_here", "_law_want_here"] f fd)
    (D_law_asked_first : Def K mg "_law_asked_first" s_law_asked_first ["_law_way", "_law_shop_here"] f0 fd0) (G_law_asked_first : FnOk P w K mg base (L2.CX P w) k f0 fd0 ["_law_way", "_law_shop_here"] (fun vs H Q E => ∃ x, vs[0]? = some (.int x) ∧ sp_ref C T 1 2 vs H Q E))
    (D_least : Def K mg "least" s_least ["shop", "want"] f1 fd1) (G_least : FnOk P w K mg base (L2.CX P w) k f1 fd1 ["shop", "want"] (sp_ref C T 0 2)) (D_cases : Def K mg "cases" s_cases ["shop", "want"] f2 fd2) (G_cases : FnOk P w K mg base (L2.CX P w) k f2 fd2 ["shop", "want"] (sp_ref C T 0 2))
    (D_shows : Def K mg "shows" s_shows ["shop", "want", "table"] f3 fd3) (G_shows : FnOk P w K mg base (L2.CX P w) k f3 fd3 ["shop", "want", "table"] (sp_ref C T 0 3)) (D_fair : Def K mg "fair" s_fair ["shop", "prices"] f4 fd4) (G_fair : FnOk P w K mg base (L2.CX P w) k f4 fd4 ["shop", "prices"] (sp_ref C T 0 2))
    (D_single_prices : Def K mg "single_prices" s_single_prices ["shop", "want"] f5 fd5) (G_single_prices : FnOk P w K mg base (L2.CX P w) k f5 fd5 ["shop", "want"] (sp_ref C T 0 2)) (D_hold_together : Def K mg "hold_together" s_hold_together ["shop", "want", "told"] f6 fd6) (G_hold_together : FnOk P w K mg base (L2.CX P w) k f6 fd6 ["shop", "want", "told"] (sp_ref C T 0 3))
    (D_moves : Def K mg "moves" s_moves ["shop", "want", "place"] f7 fd7) (G_moves : FnOk P w K mg base (L2.CX P w) k f7 fd7 ["shop", "want", "place"] (sp_ref C T 0 3)) (D_show_shop : Def K mg "show_shop" s_show_shop ["names", "shop"] f8 fd8) (G_show_shop : FnOk P w K mg base (L2.CX P w) k f8 fd8 ["names", "shop"] (sp_ref C T 1 2)) :
    FnOk P w K mg base (L2.CX P w) (k + 1) f fd ["_law_way", "_law_shop_here", "_law_want_here"] (sp_asked C T) := by
  refine D.F.okX sc_law_asked (fun vs H Q E h => ?_) (fun cdv A outer s H vs Q E hr h => ?_)
  · obtain ⟨x, a, wa, ws, os, n, rfl, _⟩ := h
    rfl
  · obtain ⟨x, a, wa, ws, os, n, rfl, hw, lw, hS, sz, l99, fb, hT, qE⟩ := h
    refine ⟨_, (pss_cons (ps_setLc (i := 3) (own := [("_law_number", 4)]) (by rfl) sc_law_asked.nd rfl rfl (sw_true rfl rfl rfl (by decide +kernel)) (pi_list (pv 2)) (blkOk_by (own := [("_law_number", 4)]) (N := N_law_asked) (sc := defScope s_law_asked) (by decide +kernel)) (fun _ _ _ _ _ => (pg_name (i := 4) sc_law_asked.nd rfl (Or.inl rfl))) (fun _ _ _ _ _ => pts_nil) (fun _ _ _ _ _ => (pe_tup (pa_cons pe_int (pa_cons pe_int pa_nil)))))
  (pss_cons (ps_if (pt_cmpR op_lt (pv 0) pe_int (nomark _))
   (pss_one (ps_ret (pe_callS G_law_asked_first hr (by rfl) D_law_asked_first.g D_law_asked_first.F.kp D_law_asked_first.b (fun σ => passAt (takes_of rfl rfl rfl rfl) σ) (pa_cons (pv 0) (pa_cons (pv 1) pa_nil)))))
   pss_nil)
  (pss_cons (ps_if (pt_cmpR op_eq (pv 0) pe_int (nomark _))
   (pss_one (ps_ret (pe_callS G_least hr (by rfl) D_least.g D_least.F.kp D_least.b (fun σ => passAt (takes_of rfl rfl rfl rfl) σ) (pa_cons (pv 1) (pa_cons (pv 2) pa_nil)))))
   pss_nil)
  (pss_cons (ps_if (pt_cmpR op_eq (pv 0) pe_int (nomark _))
   (pss_one (ps_ret (pe_callS G_cases hr (by rfl) D_cases.g D_cases.F.kp D_cases.b (fun σ => passAt (takes_of rfl rfl rfl rfl) σ) (pa_cons (pv 1) (pa_cons (pv 2) pa_nil)))))
   pss_nil)
  (pss_cons (ps_if (pt_cmpR op_eq (pv 0) pe_int (nomark _))
   (pss_one (ps_ret (pe_callS G_shows hr (by rfl) D_shows.g D_shows.F.kp D_shows.b (fun σ => passAt (takes_of rfl rfl rfl rfl) σ) (pa_cons (pv 1) (pa_cons (pv 2) (pa_cons (pe_lst pa_nil) pa_nil))))))
   pss_nil)
  (pss_cons (ps_if (pt_cmpR op_eq (pv 0) pe_int (nomark _))
   (pss_one (ps_ret (pe_callS G_fair hr (by rfl) D_fair.g D_fair.F.kp D_fair.b (fun σ => passAt (takes_of rfl rfl rfl rfl) σ) (pa_cons (pv 1) (pa_cons (pv 3) pa_nil)))))
   pss_nil)
  (pss_cons (ps_if (pt_cmpR op_eq (pv 0) pe_int (nomark _))
   (pss_one (ps_ret (pe_callS G_single_prices hr (by rfl) D_single_prices.g D_single_prices.F.kp D_single_prices.b (fun σ => passAt (takes_of rfl rfl rfl rfl) σ) (pa_cons (pv 1) (pa_cons (pv 2) pa_nil)))))
   pss_nil)
  (pss_cons (ps_if (pt_cmpR op_eq (pv 0) pe_int (nomark _))
   (pss_one (ps_ret (pe_callS G_hold_together hr (by rfl) D_hold_together.g D_hold_together.F.kp D_hold_together.b (fun σ => passAt (takes_of rfl rfl rfl rfl) σ) (pa_cons (pv 1) (pa_cons (pv 2) (pa_cons (pe_tup (pa_cons (pe_tup (pa_cons pe_int (pa_cons pe_int pa_nil))) (pa_cons (pv 3) (pa_cons (pe_lst pa_nil) pa_nil)))) pa_nil))))))
   pss_nil)
  (pss_cons (ps_if (pt_cmpR op_eq (pv 0) pe_int (nomark _))
   (pss_one (ps_ret (pe_callS G_moves hr (by rfl) D_moves.g D_moves.F.kp D_moves.b (fun σ => passAt (takes_of rfl rfl rfl rfl) σ) (pa_cons (pv 1) (pa_cons (pv 2) (pa_cons pe_int pa_nil))))))
   pss_nil)
  (pss_one (ps_ret (pe_callS G_show_shop hr (by rfl) D_show_shop.g D_show_shop.F.kp D_show_shop.b (fun σ => passAt (takes_of rfl rfl rfl rfl) σ) (pa_cons (pe_slice sl_list (pe_lst (pa_cons pe_str (pa_cons pe_str (pa_cons pe_str (pa_cons pe_str pa_nil))))) po_none (po_some (pe_callB call_len_seq (by rfl) M.len (by decide +kernel) (pa_cons (pv 2) pa_nil)))) (pa_cons (pv 1) pa_nil)))))))))))))), ?_⟩
    refine ⟨_, rfl, wa, rfl, ⟨_, SqL.of hw⟩, fun B nB => lc_list (xs := ws.map V.int) (fun i H' => Same H H' ∧ ∃ ys : List V, H' B = some (.lst ys) ∧ ys.length = i) ⟨same_upd nB, [], upd_same, rfl⟩ (fun i H' _ hp => SqL.of (hp.1 _ _ hw)) (fun i y H1 hy hp => ?_) (fun H1 hp => ?_)⟩
    · obtain ⟨s1, ys, hB, hly⟩ := hp
      have hi := (List.getElem?_eq_some_iff.mp hy).1
      rw [List.length_map] at hi
      refine ⟨rfl, by show 2 ≤ sizeLine; decide, fun t nt => ?_⟩
      have hB2 := (same_upd (o := .tup [.int 0, .int 1]) nt) _ _ hB
      exact ⟨_, hB2, szL' (by omega), sm_new (s1.trans (same_upd nt)) nB, ys ++ [.ref t], upd_same, by rw [List.length_append, hly]; rfl⟩
    · obtain ⟨s1, ys, hB, hly⟩ := hp
      have E1 : Ext T H H1 := .same s1 hT
      have go : ∀ {H2 : Hp}, Ext T H1 H2 → ShopAt H2 a os ∧ Tb T H2 ∧ ∀ H' d, Ext T H2 H' → H2 d = none → H' d = some (.xd [("place", .int (n : Nat))]) → E (.ref C) (some d) H' := fun {H2} e => ⟨hS.ext (E1.trans e), e.t1, fun H' d e' nd hd => qE H' d ((E1.trans e).trans e') ((E1.trans e).free _ nd) hd⟩
      have here := go (.refl E1.t1)
      refine ⟨_, rfl, _, _, rfl, rfl, _, rfl, ite2 (fun _ => ?_) (fun _ => ?_)⟩
      · exact ⟨_, rfl, _, rfl, x, rfl, a, os, n, rfl, rfl, here.1, sz, l99, fb, here.2.1, here.2.2⟩
      refine ⟨_, rfl, rfl, _, rfl, ite2 (fun _ => ?_) (fun _ => ?_)⟩
      · exact ⟨_, rfl, _, rfl, a, os, n, rfl, rfl, here.1, sz, l99, fb, here.2.1, here.2.2⟩
      refine ⟨_, rfl, rfl, _, rfl, ite2 (fun _ => ?_) (fun _ => ?_)⟩
      · exact ⟨_, rfl, _, rfl, a, os, n, rfl, rfl, here.1, sz, l99, fb, here.2.1, here.2.2⟩
      refine ⟨_, rfl, rfl, _, rfl, ite2 (fun _ => ?_) (fun _ => ?_)⟩
      · refine ⟨_, rfl, _, rfl, by decide, fun l nl => ?_⟩
        have h2 := go (.same (same_upd (o := .lst []) nl) E1.t1)
        exact ⟨a, os, n, rfl, rfl, h2.1, sz, l99, fb, h2.2.1, h2.2.2⟩
      refine ⟨_, rfl, rfl, _, rfl, ite2 (fun _ => ?_) (fun _ => ?_)⟩
      · exact ⟨_, rfl, _, rfl, a, os, n, rfl, rfl, here.1, sz, l99, fb, here.2.1, here.2.2⟩
      refine ⟨_, rfl, rfl, _, rfl, ite2 (fun _ => ?_) (fun _ => ?_)⟩
      · exact ⟨_, rfl, _, rfl, a, os, n, rfl, rfl, here.1, sz, l99, fb, here.2.1, here.2.2⟩
      refine ⟨_, rfl, rfl, _, rfl, ite2 (fun _ => ?_) (fun _ => ?_)⟩
      · refine ⟨_, rfl, _, rfl, by show 2 ≤ sizeLine; decide, fun t1 n1 => ⟨_, rfl, by decide, fun t2 n2 => ⟨by show 3 ≤ sizeLine; decide, fun t3 n3 => ?_⟩⟩⟩
        have h2 := go (.same (((same_upd (o := .tup [.int 0, .int 1]) n1).trans (same_upd (o := .lst []) n2)).trans (same_upd (o := .tup [.ref t1, .ref B, .ref t2]) n3)) E1.t1)
        exact ⟨a, os, n, rfl, rfl, h2.1, sz, l99, fb, h2.2.1, h2.2.2⟩
      refine ⟨_, rfl, rfl, _, rfl, ite2 (fun _ => ?_) (fun _ => ?_)⟩
      · exact ⟨_, rfl, _, rfl, a, os, n, rfl, rfl, here.1, sz, l99, fb, here.2.1, here.2.2⟩
      · refine ⟨by show 4 ≤ sizeLine; decide, fun l1 n1 => ?_⟩
        have sl := same_upd (o := .lst [.str "a", .str "b", .str "c", .str "d"]) n1
        refine ⟨_, rfl, wa, _, rfl, .inl (SqL.of (sl _ _ (s1 _ _ hw))), _, rfl, l1, _, rfl, SqL.of upd_same, fun l2 n2 => ?_⟩
        refine ⟨_, rfl, a, os, n, rfl, rfl, ?_, sz, l99, fb, ?_, ?_⟩
        · exact (go (.same (sl.trans (same_upd n2)) E1.t1)).1
        · exact (go (.same (sl.trans (same_upd n2)) E1.t1)).2.1
        · exact (go (.same (sl.trans (same_upd n2)) E1.t1)).2.2
theorem ok_refused {f f1 f2 : Addr} {fd fd1 fd2 : FuncData} {k : Nat} (M : Names mg) (X : Exs K mg C CP fI fdI) (Y : ExKit K mg C CP) (D : Def K mg "_law_refused" s_law_refused ["_law_way", "_law_shop_here", "_law_want_here", "_law_place"] f fd) (D_law_asked : Def K mg "_law_asked" s_law_asked ["_law_way", "_law_shop_here", "_law_want_here"] f1 fd1) (G_law_asked : FnOk P w K mg base (L2.CX P w) k f1 fd1 ["_law_way", "_law_shop_here", "_law_want_here"] (sp_asked C T))
    (D_law_which : Def K mg "_law_which" s_law_which ["_law_e"] f2 fd2) (G_law_which : FnOk P w K mg base CX0 k f2 fd2 ["_law_e"] (sp_which C)) : FnOk P w K mg base CX0 (k + 1) f fd ["_law_way", "_law_shop_here", "_law_want_here", "_law_place"] (sp_refused T) := by
  refine D.F.ok sc_law_refused (fun vs H Q E h => ?_) (fun cdv A outer s H vs Q E hr h => ?_)
  · obtain ⟨x, a, wa, ws, os, n, rfl, _⟩ := h
    rfl
  · obtain ⟨x, a, wa, ws, os, n, rfl, hw, lw, hS, sz, l99, fb, hT, q⟩ := h
    refine ⟨_, pss_cons (ps_set (i := 4) sc_law_refused.nd rfl (Or.inl rfl) pe_non)
      (pss_cutI (ps_try_asK (i := 5) (tb := fun W => tDrop (tCallS (sp_asked C T) (WE W) (tCons (tVar 0) (tCons (tVar 1) (tCons (tVar 2) tNil))))) (ts := tAsg (tVar 5) (gName 4)) (Wout := fun _ _ _ _ => False) rfl rfl rfl sc_law_refused.nd rfl rfl ⟨rfl, by decide, Or.inl X.gP⟩ takes0
        (fun W pn xe tk _ => pss_one (ps_expr (by exact (pe_callS G_law_asked hr (by rfl) D_law_asked.g D_law_asked.F.kp D_law_asked.b (fun σ => passAt tk σ) (by exact (pa_cons (pv 0) (pa_cons (pv 1) (pa_cons (pv 2) pa_nil))))))))
        (fun a pn => pss_one (ps_set (i := 4) sc_law_refused.nd rfl (Or.inl rfl) (by exact (pv 5)))))
      (pss_one (ps_ret (pe_and (pe_cmpR op_notN (pv 4) pe_non (nomark _)) (pe_and (pe_cmpR op_eq (pe_call G_law_which hr (by rfl) D_law_which.g D_law_which.F.kp D_law_which.b .nil pass0 (pa_cons (pv 4) pa_nil)) pe_str (nomark _)) (pe_one (pe_cmpR op_eq (pe_xk (pv 4)) (pv 3) (nomark _)))))))), ?_⟩
    refine ⟨fun σ H' => Ext T H H' ∧ ∃ (e d : Addr), σ = [some (.int x), some (.ref a), some (.ref wa), some (.int (n : Nat)), some (.ref e), none] ∧ H' e = some (exk e (.ref C) (some d)) ∧ H' d = some (.xd [("place", .int (n : Nat))]), ?_, fun σ' H' hI => ?_⟩
    · refine ⟨_, rfl, _, rfl, _, rfl, x, a, wa, ws, os, n, rfl, hw, lw, hS, sz, l99, fb, hT, fun H1 d E1 nd hd => ?_⟩
      refine ⟨true, Y.ex, fun _ e ne => ?_, fun z => Bool.noConfusion z⟩
      have nde : d ≠ e := fun z => by rw [z, ne] at hd; cases hd
      exact ⟨_, rfl, E1.new (E1.free _ ne), e, d, rfl, upd_same, by rw [upd_ne nde]; exact hd⟩
    · obtain ⟨E1, e, d, rfl, he, hd⟩ := hI
      refine ⟨_, rfl, rfl, true, rfl, _, rfl, e, d, _, rfl, he, hd, fun H2 s2 => ⟨rfl, true, rfl, ?_⟩⟩
      refine ⟨_, rfl, e, C, d, _, _, rfl, s2 _ _ he, s2 _ _ hd, X.xf, X.np, rfl, _, rfl, rfl, ?_⟩
      rw [decide_eq_true rfl]
      exact q H2 (E1.trans (.same s2 E1.t1))
end
/-! ### _law_pop -/
abbrev s_law_pop : Stmt := topS 74
abbrev N_law_pop : List Str := ["_law_draws_here"]
theorem sc_law_pop : FnScope N_law_pop ["_law_draws_here"] (defScope s_law_pop) := ⟨rfl, rfl, rfl, by decide +kernel, rfl, by decide +kernel, by decide +kernel⟩

def sp_pop : Sp := fun vs H Q _ => ∃ (a : Addr) (ns : List Int), vs = [.ref a] ∧ H a = some (LI ns) ∧ ∀ H', SameBut a H H' → H' a = some (LI ns.tail) → Q (.int (ns.headD 0)) H'
section
variable {P : Program} {w : World} {K : PySem.W.Frag} {mg : Str → Option Value} {base : Heap}
theorem ok_pop {f : Addr} {fd : FuncData} {k : Nat} (D : Def K mg "_law_pop" s_law_pop ["_law_draws_here"] f fd) : FnOk P w K mg base CX0 (k + 1) f fd ["_law_draws_here"] sp_pop := by
  refine D.F.ok sc_law_pop (fun vs H Q E h => ?_) (fun cdv A outer s H vs Q E hr h => ?_)
  · obtain ⟨a, ns, rfl, _⟩ := h
    rfl
  · obtain ⟨a, ns, rfl, ha, q⟩ := h
    refine ⟨_, (pss_cons (ps_if (pt_cmpR (op_eqD hr.units) (pv 0) (pe_lst pa_nil) (nomark _))
   (pss_one (ps_ret pe_int))
   pss_nil)
  (pss_one (ps_ret (pe_bm PySem.F.plainAttrs_list PySem.F.slot_list_pop PySem.F.type_list_pop mt_popAt (pv 0) (pa_cons pe_int pa_nil))))), ?_⟩
    refine ⟨.ref a, rfl, Nat.zero_le _, fun p np => ?_⟩
    have ne : a ≠ p := ne_of_none ha np
    have ha1 : upd H p (.lst []) a = some (LI ns) := by rw [upd_ne ne]; exact ha
    have s1 : SameBut a H (upd H p (.lst [])) := .of (same_upd np)
    refine ⟨_, _, dp_ints (SqL.of ha1), dp_ints (ns := []) (SqL.of upd_same), shaped_ints _, shaped_ints _, _, rfl, ite2 (fun e => ?_) (fun e => ?_)⟩
    · rw [eqv_ints] at e
      have e2 : ns = [] := of_decide_eq_true e
      subst e2
      exact q _ s1 ha1
    · rw [eqv_ints] at e
      cases ns with
      | nil => exact absurd (decide_eq_true rfl) e
      | cons n r =>
        refine ⟨.ref a, rfl, .inl ⟨rfl, _, SqL.of ha1⟩, a, _, 0, 0, .int n, rfl, rfl, ha1, by decide, by decide, ?_, rfl, ?_⟩
        · rw [List.length_map, List.length_cons]
          exact (ixN_seq (ixN_nat (Nat.succ_pos _))).1
        · exact q _ (s1.trans .upd) upd_same
end
/-! ### _law_cases -/
abbrev s_law_cases : Stmt := topS 76
abbrev N_law_cases : List Str := ["_law_want_here", "_law_found", "_law_number"]
theorem sc_law_cases : FnScope N_law_cases ["_law_want_here"] (defScope s_law_cases) := ⟨rfl, rfl, rfl, by decide +kernel, rfl, by decide +kernel, by decide +kernel⟩

def casesM (ws : List Int) : Int := ws.foldl (fun p w => p * (w + 1)) 1
theorem casesM_take {ws : List Int} {i : Nat} {x : Int} (h : ws[i]? = some x) : casesM (ws.take (i + 1)) = casesM (ws.take i) * (x + 1) := by
  unfold casesM
  rw [take_succ_at h, List.foldl_append]
  rfl
def sp_cases (K : PySem.W.Frag) : Sp := fun vs H Q _ => ∃ (a : Addr) (ws : List Int), vs = [.ref a] ∧ SqL K H a (ws.map V.int) ∧ (∀ w ∈ ws, -1000000 ≤ w ∧ w ≤ 1000000) ∧ Q (.int (casesM ws)) H
section
variable {P : Program} {w : World} {K : PySem.W.Frag} {mg : Str → Option Value} {base : Heap}
theorem ok_cases {f : Addr} {fd : FuncData} {k : Nat} (D : Def K mg "_law_cases" s_law_cases ["_law_want_here"] f fd) : FnOk P w K mg base CX0 (k + 1) f fd ["_law_want_here"] (sp_cases K) := by
  refine D.F.ok sc_law_cases (fun vs H Q E h => ?_) (fun cdv A outer s H vs Q E hr h => ?_)
  · obtain ⟨a, ns, rfl, _⟩ := h
    rfl
  · obtain ⟨a, ws, rfl, ha, hw, q⟩ := h
    refine ⟨_, (pss_cons (ps_set (i := 1) sc_law_cases.nd rfl (Or.inl rfl) pe_int)
  (pss_cons (ps_for PassesOwn.never rfl (pi_list (pv 0)) (pg_name (i := 2) sc_law_cases.nd rfl (Or.inl rfl))
   (pss_one (ps_set (i := 1) sc_law_cases.nd rfl (Or.inl rfl) (pe_op op_mul (pv 1) (pe_op op_add (pv 2) pe_int)))))
  (pss_one (ps_ret (pv 1))))), ?_⟩
    refine ⟨.ref a, rfl, a, rfl, ⟨_, ha⟩, for_list (xs := ws.map V.int) (fun i σ H' => ∃ y, σ = [some (.ref a), some (.int (casesM (ws.take i))), y] ∧ H' = H) ⟨none, rfl, rfl⟩ (fun i σ H' _ hp => ?_) (fun i x σ H' hx hp => ?_) (fun σ H' hp => ?_)⟩
    · obtain ⟨y, _, rfl⟩ := hp
      exact ha
    · obtain ⟨y, rfl, rfl⟩ := hp
      obtain ⟨n, hn, rfl⟩ := of_get_ints hx
      have b := hw n (List.mem_of_getElem? hn)
      refine ⟨_, rfl, _, rfl, _, _, rfl, rfl, _, _, rfl, rfl, .inr ⟨by omega, by omega⟩, some (.int n), ?_, rfl⟩
      rw [casesM_take hn]
      rfl
    · obtain ⟨y, rfl, rfl⟩ := hp
      refine ⟨_, rfl, ?_⟩
      rw [List.length_map, List.take_length]
      exact q
end
/-! ### _law_draws -/
abbrev s_law_draws : Stmt := topS 73
abbrev N_law_draws : List Str := ["_law_script", "_law_turn", "_law_many", "_law_cells", "_law_found", "_law_k", "_law_left", "_law_place", "_law_number", "_law_at", "_law_cell"]
theorem sc_law_draws : FnScope N_law_draws ["_law_script", "_law_turn", "_law_many"] (defScope s_law_draws) := ⟨rfl, rfl, rfl, by decide +kernel, rfl, by decide +kernel, by decide +kernel⟩

theorem cut_to (ns : List Int) (k : Nat) : cutV (ns.map V.int) none (some (k : Int)) = (ns.take k).map V.int := by
  unfold cutV
  rw [HT.sIx_nat, HT.sIx_none, List.drop_zero, Nat.sub_zero, List.map_take]
  exact (List.take_eq_take_iff).mpr (by omega)
def sp_draws (K : PySem.W.Frag) : Sp := fun vs H Q _ => ∃ (a : Addr) (ns : List Int) (t m : Nat), vs = [.ref a, .int t, .int m] ∧ SqL K H a (ns.map V.int) ∧ ns.length ≤ 1000 ∧ t ≤ 1000 ∧ m ≤ 1000 ∧
  ∀ H' p ds, Same H H' → H p = none → H' p = some (LI ds) → Q (.ref p) H'
section
variable {P : Program} {w : World} {K : PySem.W.Frag} {mg : Str → Option Value} {base : Heap}
theorem ok_draws {f : Addr} {fd : FuncData} {k : Nat} (M : Names mg) (D : Def K mg "_law_draws" s_law_draws ["_law_script", "_law_turn", "_law_many"] f fd) :
    FnOk P w K mg base CX0 (k + 1) f fd ["_law_script", "_law_turn", "_law_many"] (sp_draws K) := by
  refine D.F.ok sc_law_draws (fun vs H Q E h => ?_) (fun cdv A outer s H vs Q E hr h => ?_)
  · obtain ⟨a, ns, t, m, rfl, _⟩ := h
    rfl
  · obtain ⟨a, ns, t, m, rfl, hS, hl, ht, hm, q⟩ := h
    refine ⟨_, (pss_cons (ps_set (i := 3) sc_law_draws.nd rfl (Or.inl rfl) (pe_op op_cat (pe_slice sl_list (pv 0) po_none (po_some pe_int)) (pe_lst (pa_cons (pv 1) pa_nil))))
  (pss_cons (ps_set (i := 4) sc_law_draws.nd rfl (Or.inl rfl) (pe_lst pa_nil))
  (pss_cons (ps_if (pt_cmpR op_eq (pe_op op_mod (pe_op op_fdiv (pe_ix ix_list (pv 3) pe_int (fun _ _ => rfl)) pe_int) pe_int) pe_int (nomark _))
   (pss_cons (ps_setLc (i := 6) (own := [("_law_cell", 10)]) (by rfl) sc_law_draws.nd rfl rfl (sw_true rfl rfl rfl (by decide +kernel)) (pi_list (pv 3)) (blkOk_by (own := [("_law_cell", 10)]) (N := N_law_draws) (sc := defScope s_law_draws) (by decide +kernel)) (fun _ _ _ _ _ => (pg_name (i := 10) sc_law_draws.nd rfl (Or.inl rfl))) (fun _ _ _ _ _ => pts_nil) (fun _ _ _ _ _ => (pe_op op_fdiv (pv 10) pe_int)))
  (pss_cons (ps_for PassesOwn.never rfl (pi_range1 (by rfl) M.range (pa_cons (pe_op op_add (pv 1) (pv 2)) pa_nil)) (pg_name (i := 5) sc_law_draws.nd rfl (Or.inl rfl))
   (pss_cons (ps_set (i := 9) sc_law_draws.nd rfl (Or.inl rfl) (pe_op op_mod (pv 5) (pe_callB call_len_seq (by rfl) M.len (by decide +kernel) (pa_cons (pv 6) pa_nil))))
  (pss_cons (ps_if (pt_cmpR op_ge (pv 5) (pv 1) (nomark _))
   (pss_one (ps_expr (pe_bm PySem.F.plainAttrs_list PySem.F.slot_list_append PySem.F.type_list_append mt_append (pv 4) (pa_cons (pe_op op_mod (pe_ix ix_list (pv 6) (pv 9) (fun _ _ => rfl)) pe_int) pa_nil))))
   pss_nil)
  (pss_one (ps_asg (pe_op op_fdivW (pe_ix ix_list (pv 6) (pv 9) (fun _ _ => rfl)) pe_int) (pg_sub (pv 6) (pv 9) set_list))))))
  (pss_one (ps_ret (pv 4)))))
   pss_nil)
  (pss_cons (ps_for PassesOwn.never rfl (pi_range1 (by rfl) M.range (pa_cons (pv 2) pa_nil)) (pg_name (i := 5) sc_law_draws.nd rfl (Or.inl rfl))
   (pss_cons (ps_set (i := 7) sc_law_draws.nd rfl (Or.inl rfl) (pe_op op_add (pe_op op_mul (pe_op op_mul (pe_op op_add (pv 5) (pv 1)) (pe_op op_add (pv 5) (pv 1))) pe_int) pe_int))
  (pss_cons (ps_set (i := 8) sc_law_draws.nd rfl (Or.inl rfl) (pe_op op_mod (pe_op op_mul (pe_op op_add (pe_op op_mod (pe_ix ix_list (pv 3) (pe_op op_mod (pv 5) (pe_callB call_len_seq (by rfl) M.len (by decide +kernel) (pa_cons (pv 3) pa_nil))) (fun _ _ => rfl)) pe_int) (pv 7)) pe_int) pe_int))
  (pss_cons (ps_set (i := 8) sc_law_draws.nd rfl (Or.inl rfl) (pe_op op_mod (pe_op op_add (pe_op op_mul (pv 8) (pv 8)) (pe_op op_mul pe_int (pv 5))) pe_int))
  (pss_one (ps_expr (pe_bm PySem.F.plainAttrs_list PySem.F.slot_list_append PySem.F.type_list_append mt_append (pv 4) (pa_cons (pe_op op_mod (pe_op op_mul (pv 8) (pv 8)) pe_int) pa_nil))))))))
  (pss_one (ps_ret (pv 4))))))), ?_⟩
    refine ⟨.ref a, rfl, 63, rfl, a, ns.map V.int, rfl, hS, fun c nc => ?_⟩
    refine ⟨.int t, rfl, by show 1 ≤ sizeLine; decide, fun u nu => ?_⟩
    have hcu : c ≠ u := ne_of_none upd_same nu
    have hc : (upd (upd H c (.lst (cutV (ns.map V.int) none (some 63)))) u (.lst [.int (t : Int)])) c = some (.lst (cutV (ns.map V.int) none (some 63))) := by
      rw [upd_ne hcu]
      exact upd_same
    have hlen := cutV_length (ns.map V.int) none (some 63)
    rw [List.length_map] at hlen
    refine ⟨c, u, _, _, rfl, rfl, hc, upd_same, szL (by rw [show ([V.int (t : Int)] : List V).length = 1 from rfl]; omega), fun e ne => ?_⟩
    obtain ⟨cs, ecs, hcs1, hcs2⟩ : ∃ cs : List Int, cutV (ns.map V.int) none (some 63) ++ [V.int (t : Int)] = cs.map V.int ∧ 0 < cs.length ∧ cs.length ≤ 2000 := by
      refine ⟨ns.take 63 ++ [(t : Int)], ?_, ?_, ?_⟩
      · rw [show (63 : Int) = ((63 : Nat) : Int) from rfl, cut_to, List.map_append]
        rfl
      · rw [List.length_append]
        exact Nat.succ_pos _
      · rw [List.length_append, List.length_take, List.length_singleton]
        omega
    have s1 : Same H (upd (upd (upd H c (.lst (cutV (ns.map V.int) none (some 63)))) u (.lst [.int (t : Int)])) e (.lst (cutV (ns.map V.int) none (some 63) ++ [.int (t : Int)]))) :=
      ((same_upd nc).trans (same_upd nu)).trans (same_upd ne)
    have he1 : (upd (upd (upd H c (.lst (cutV (ns.map V.int) none (some 63)))) u (.lst [.int (t : Int)])) e (.lst (cutV (ns.map V.int) none (some 63) ++ [.int (t : Int)]))) e = some (LI cs) := by
      rw [upd_same, ecs]
    generalize (upd (upd (upd H c (.lst (cutV (ns.map V.int) none (some 63)))) u (.lst [.int (t : Int)])) e (.lst (cutV (ns.map V.int) none (some 63) ++ [.int (t : Int)]))) = H1 at s1 he1 ⊢
    -- found = []
    refine ⟨Nat.zero_le _, fun o no => ?_⟩
    have hoe : e ≠ o := ne_of_none he1 no
    have s2 : Same H (upd H1 o (.lst [])) := s1.trans (same_upd no)
    have noH : H o = none := s1.free no
    have he2 : (upd H1 o (.lst [])) e = some (LI cs) := by rw [upd_ne hoe]; exact he1
    have ho2 : (upd H1 o (.lst [])) o = some (LI []) := upd_same
    generalize (upd H1 o (.lst [])) = H2 at s2 he2 ho2 ⊢
    -- cells[0] // 50000 % 2 == 1
    refine ⟨.ref e, rfl, e, _, 0, .int cs[0], rfl, rfl, SqL.of he2, atI_nat (j := 0) (getD_ints hcs1), _, _, rfl, rfl, ⟨by decide, by decide⟩, _, _, rfl, rfl, (by show (0 : Int) < _; decide), rfl, _, rfl, ite2 (fun _ => ?_) (fun _ => ?_)⟩
    · -- left = [cell // 100000 for cell in cells]
      refine ⟨.ref e, rfl, e, rfl, ⟨_, SqL.of he2⟩, fun B nB => lc_list (xs := cs.map V.int) (fun i H' => Same H2 H' ∧ ∃ ls : List Int, H' B = some (LI ls) ∧ ls.length = i) ⟨same_upd nB, [], upd_same, rfl⟩ (fun i H' _ hp => SqL.of (hp.1 _ _ he2)) (fun i x H' hx hp => ?_) (fun H3 hp => ?_)⟩
      · obtain ⟨s3, ls, hB, hls⟩ := hp
        obtain ⟨n, hn, rfl⟩ := of_get_ints hx
        have hi : i < cs.length := (List.getElem?_eq_some_iff.mp hn).1
        refine ⟨rfl, _, rfl, _, _, rfl, rfl, ⟨by decide, by decide⟩, _, hB, szL' (by rw [List.length_map]; omega), sm_new s3 nB, ls ++ [n / 100000], ?_, by rw [List.length_append, hls]; rfl⟩
        exact at_app
      · obtain ⟨s3, ls, hB, hls⟩ := hp
        rw [List.length_map] at hls
        have s3' := s2.trans s3
        have ho3 := s3 _ _ ho2
        have noB : o ≠ B := ne_of_none ho2 nB
        have nBH : H B = none := s2.free nB
        -- for k in range(turn + many)
        refine ⟨_, rfl, _, rfl, _, _, rfl, rfl, _, rfl, by omega, by omega, for_range (n := ((t : Int) + (m : Int)).toNat) (fun i σ H' => ∃ y5 y9, σ = [some (.ref a), some (.int t), some (.int m), some (.ref e), some (.ref o), y5, some (.ref B), none, none, y9, none] ∧ Same H H' ∧
          (∃ ds : List Int, H' o = some (LI ds) ∧ ds.length ≤ i) ∧ ∃ ls : List Int, H' B = some (LI ls) ∧ ls.length = cs.length) ⟨none, none, rfl, s3', ⟨[], ho3, Nat.zero_le _⟩, ls, hB, hls⟩ (fun i σ H4 hi hp => ?_) (fun σ H4 hp => ?_)⟩
        · obtain ⟨y5, y9, rfl, s4, ⟨ds, ho4, hds⟩, ls, hB4, hls⟩ := hp
          obtain ⟨j, hj, ej⟩ := mod_at (i := (0 : Int) + (i : Nat)) (n := (ls.map V.int).length) (by rw [List.length_map]; omega)
          rw [List.length_map] at hj
          refine ⟨_, rfl, _, rfl, B, _, rfl, .inl (SqL.of hB4), _, _, rfl, rfl, by rw [List.length_map]; omega, ?_⟩
          refine ⟨_, rfl, _, rfl, _, _, rfl, rfl, _, rfl, ite2 (fun _ => ?_) (fun _ => ?_)⟩
          · refine ⟨_, rfl, .inl ⟨rfl, _, SqL.of ho4⟩, _, rfl, _, rfl, B, _, _, _, rfl, rfl, SqL.of hB4, at_of ej (getD_ints hj), _, _, rfl, rfl, (by show (0 : Int) < _; decide), o, _, _, rfl, rfl, ho4, szL' (by rw [List.length_map]; omega), ?_⟩
            have hB5 : upd H4 o (.lst (ds.map V.int ++ [V.int (ls[j] % 2147483587)])) B = some (LI ls) := by rw [upd_ne noB.symm]; exact hB4
            refine ⟨_, rfl, _, rfl, B, _, _, _, rfl, rfl, SqL.of hB5, at_of ej (getD_ints hj), _, _, rfl, rfl, wide_div (b := 32) (by decide) (by decide) (by decide) (by decide), _, rfl, _, rfl, B, _, _, j, rfl, rfl, hB5, by rw [ej, List.length_map]; exact ixN_nat hj, ?_⟩
            refine ⟨_, _, rfl, sm_new (sm_new s4 noH) nBH, ⟨ds ++ [ls[j] % 2147483587], ?_, by rw [List.length_append, List.length_singleton]; omega⟩, ls.set j (ls[j] / 2147483587), ?_, by rw [List.length_set]; exact hls⟩
            · rw [upd_ne noB]
              exact at_app
            · exact at_set
          · refine ⟨_, rfl, _, rfl, B, _, _, _, rfl, rfl, SqL.of hB4, at_of ej (getD_ints hj), _, _, rfl, rfl, wide_div (b := 32) (by decide) (by decide) (by decide) (by decide), _, rfl, _, rfl, B, _, _, j, rfl, rfl, hB4, by rw [ej, List.length_map]; exact ixN_nat hj, ?_⟩
            refine ⟨_, _, rfl, sm_new s4 nBH, ⟨ds, ?_, by omega⟩, ls.set j (ls[j] / 2147483587), ?_, by rw [List.length_set]; exact hls⟩
            · rw [upd_ne noB]
              exact ho4
            · exact at_set
        · obtain ⟨y5, y9, rfl, s4, ⟨ds, ho4, hds⟩, _⟩ := hp
          exact ⟨_, rfl, q H4 o ds s4 noH ho4⟩
    · -- for k in range(many)
      refine ⟨_, rfl, _, rfl, by omega, by omega, for_range (n := (m : Int).toNat) (fun i σ H' => ∃ y5 y7 y8, σ = [some (.ref a), some (.int t), some (.int m), some (.ref e), some (.ref o), y5, none, y7, y8, none, none] ∧ Same H H' ∧ H' e = some (LI cs) ∧
        (∃ ds : List Int, H' o = some (LI ds) ∧ ds.length ≤ i)) ⟨none, none, none, rfl, s2, he2, [], ho2, Nat.zero_le _⟩ (fun i σ H4 hi hp => ?_) (fun σ H4 hp => ?_)⟩
      · obtain ⟨y5, y7, y8, rfl, s4, he4, ds, ho4, hds⟩ := hp
        have hi2 : i < m := by omega
        obtain ⟨j, hj, ej⟩ := mod_at (i := (0 : Int) + (i : Nat)) (n := (cs.map V.int).length) (by rw [List.length_map]; omega)
        rw [List.length_map] at hj
        -- place
        refine ⟨_, rfl, _, rfl, _, _, rfl, rfl, _, rfl, _, rfl, _, _, rfl, rfl, _, _, rfl, rfl, .inl ⟨by omega, by omega⟩, _, _, rfl, rfl, .inr ⟨by decide, by decide⟩, _, _, rfl, rfl, ?_⟩
        -- number
        refine ⟨_, rfl, _, rfl, _, rfl, e, _, rfl, .inl (SqL.of he4), _, _, rfl, rfl, by rw [List.length_map]; omega, e, _, _, _, rfl, rfl, SqL.of he4, at_of ej (getD_ints hj), _, _, rfl, rfl, (by show (0 : Int) < _; decide), _, rfl, _, _, rfl, rfl, _, _, rfl, rfl, .inr ⟨by decide, by decide⟩, _, _, rfl, rfl, (by show (0 : Int) < _; decide), ?_⟩
        have mb : ∀ z : Int, -(2 ^ 64) < z % 2147483647 ∧ z % 2147483647 < 2 ^ 64 := fun z => by omega
        have mb2 : ∀ z : Int, -(2 ^ 64) < z % 2147483629 ∧ z % 2147483629 < 2 ^ 64 := fun z => by omega
        refine ⟨_, rfl, _, rfl, _, _, rfl, rfl, .inl (mb _), _, rfl, _, _, rfl, rfl, .inl ⟨by decide, by decide⟩, _, _, rfl, rfl, _, _, rfl, rfl, (by show (0 : Int) < _; decide), ?_⟩
        refine ⟨_, rfl, .inl ⟨rfl, _, SqL.of ho4⟩, _, rfl, _, rfl, _, _, rfl, rfl, .inl (mb2 _), _, _, rfl, rfl, (by show (0 : Int) < _; decide), o, _, _, rfl, rfl, ho4, szL' (by rw [List.length_map]; omega), ?_⟩
        refine ⟨_, _, _, rfl, sm_new s4 noH, ?_, _, at_app, by rw [List.length_append, List.length_singleton]; omega⟩
        rw [upd_ne hoe]
        exact he4
      · obtain ⟨y5, y7, y8, rfl, s4, _, ds, ho4, hds⟩ := hp
        exact ⟨_, rfl, q H4 o ds s4 noH ho4⟩
end
/-! ### _law_want -/
abbrev s_law_want : Stmt := topS 75
abbrev N_law_want : List Str := ["_law_draws_here", "_law_many", "_law_number", "_law_found", "_law_k"]
theorem sc_law_want : FnScope N_law_want ["_law_draws_here", "_law_many"] (defScope s_law_want) := ⟨rfl, rfl, rfl, by decide +kernel, rfl, by decide +kernel, by decide +kernel⟩

theorem menu8 {j : Nat} (h : j < 8) : ∃ v : Int, ([V.int 0, V.int 1, V.int 2, V.int 9, V.int 4, V.int 5, V.int 3, V.int 1] : List V)[j]? = some (.int v) ∧ 0 ≤ v ∧ v ≤ 9 :=
  match j, h with
  | 0, _ => ⟨0, rfl, by decide, by decide⟩
  | 1, _ => ⟨1, rfl, by decide, by decide⟩
  | 2, _ => ⟨2, rfl, by decide, by decide⟩
  | 3, _ => ⟨9, rfl, by decide, by decide⟩
  | 4, _ => ⟨4, rfl, by decide, by decide⟩
  | 5, _ => ⟨5, rfl, by decide, by decide⟩
  | 6, _ => ⟨3, rfl, by decide, by decide⟩
  | 7, _ => ⟨1, rfl, by decide, by decide⟩
theorem shl_ok {i : Nat} (h : i < 4) : (0 : Int) < 1 * 2 ^ (3 * (0 + (i : Int))).toNat ∧ (1 : Int) * 2 ^ (3 * (0 + (i : Int))).toNat < 1073741824 :=
  match i, h with
  | 0, _ => by decide
  | 1, _ => by decide
  | 2, _ => by decide
  | 3, _ => by decide
theorem first_at : ∀ {l : List Int} {x : Int}, x ∈ l → ∃ j : Nat, l[j]? = some x ∧ ∀ (m : Nat) y, m < j → l[m]? = some y → y ≠ x
  | a :: r, x, h => by
    by_cases e : a = x
    · subst e
      exact ⟨0, rfl, fun m y hm => absurd hm (Nat.not_lt_zero _)⟩
    · obtain ⟨j, h1, h2⟩ := first_at (l := r) ((List.mem_cons.mp h).resolve_left fun z => e z.symm)
      refine ⟨j + 1, h1, fun m y hm hy => ?_⟩
      cases m with
      | zero =>
        have : a = y := Option.some.inj hy
        rw [← this]
        exact e
      | succ m => exact h2 m y (by omega) hy
theorem casesM_zero : ∀ (ws : List Int) (p : Int), (∀ w ∈ ws, w = 0) → ws.foldl (fun p w => p * (w + 1)) p = p
  | [], _, _ => rfl
  | a :: r, p, h => by
    have e : a = 0 := h a List.mem_cons_self
    subst e
    show r.foldl (fun p w => p * (w + 1)) (p * (0 + 1)) = p
    rw [casesM_zero r _ fun w hw => h w (List.mem_cons_of_mem _ hw)]
    omega
theorem sum_nonneg : ∀ {ws : List Int}, (∀ w ∈ ws, 0 ≤ w) → 0 ≤ ws.sum
  | [], _ => by decide
  | a :: r, h => by
    have h1 := h a List.mem_cons_self
    have h2 := sum_nonneg (ws := r) fun w hw => h w (List.mem_cons_of_mem _ hw)
    rw [List.sum_cons]
    omega
theorem sum_get : ∀ {ws : List Int} {j : Nat} {x : Int}, (∀ w ∈ ws, 0 ≤ w) → ws[j]? = some x → x ≤ ws.sum
  | [], j, x, _, h => by simp at h
  | a :: r, 0, x, hh, h => by
    have e : a = x := Option.some.inj h
    have := sum_nonneg (ws := r) fun w hw => hh w (List.mem_cons_of_mem _ hw)
    rw [List.sum_cons]
    omega
  | a :: r, j + 1, x, hh, h => by
    have h1 := hh a List.mem_cons_self
    have h2 := sum_get (ws := r) (j := j) (x := x) (fun w hw => hh w (List.mem_cons_of_mem _ hw)) h
    rw [List.sum_cons]
    omega
def Small (ws : List Int) : Prop := ∀ w ∈ ws, 0 ≤ w ∧ w ≤ 9
theorem Small.app {ws : List Int} {n : Int} (h : Small ws) (h1 : 0 ≤ n) (h2 : n ≤ 9) : Small (ws ++ [n]) := fun w hw => by
  rcases List.mem_append.mp hw with z | z
  · exact h w z
  · rw [List.mem_singleton.mp z]
    exact ⟨h1, h2⟩
theorem Small.big {ws : List Int} (h : Small ws) : ∀ w ∈ ws, -1000000 ≤ w ∧ w ≤ 1000000 := fun w hw => by
  have := h w hw
  omega
def sp_want : Sp := fun vs H Q _ => ∃ (a : Addr) (ns : List Int) (m : Nat), vs = [.ref a, .int m] ∧ H a = some (LI ns) ∧ 1 ≤ m ∧ m ≤ 4 ∧
  ∀ H' p ws ns', SameBut a H H' → H p = none → p ≠ a → H' p = some (LI ws) → H' a = some (LI ns') → ws.length = m → Small ws → casesM ws ≤ 400 → Q (.ref p) H'
section
variable {P : Program} {w : World} {K : PySem.W.Frag} {mg : Str → Option Value} {base : Heap}
theorem ok_want {f fp fc : Addr} {fd fdp fdc : FuncData} {k : Nat} (M : Names mg) (D : Def K mg "_law_want" s_law_want ["_law_draws_here", "_law_many"] f fd) (D_law_pop : Def K mg "_law_pop" s_law_pop ["_law_draws_here"] fp fdp) (D_law_cases : Def K mg "_law_cases" s_law_cases ["_law_want_here"] fc fdc) :
    FnOk P w K mg base CX0 (k + 2) f fd ["_law_draws_here", "_law_many"] sp_want := by
  have G_law_pop : FnOk P w K mg base CX0 (k + 1) fp fdp ["_law_draws_here"] sp_pop := ok_pop D_law_pop
  have G_law_cases : FnOk P w K mg base CX0 (k + 1) fc fdc ["_law_want_here"] (sp_cases K) := ok_cases D_law_cases
  refine D.F.ok sc_law_want (fun vs H Q E h => ?_) (fun cdv A outer s H vs Q E hr h => ?_)
  · obtain ⟨a, ns, m, rfl, _⟩ := h
    rfl
  · obtain ⟨a, ns, m, rfl, ha, hm1, hm4, q⟩ := h
    refine ⟨_, (pss_cons (ps_set (i := 2) sc_law_want.nd rfl (Or.inr rfl) (pe_call G_law_pop hr (by rfl) D_law_pop.g D_law_pop.F.kp D_law_pop.b .nil pass0 (pa_cons (pv 0) pa_nil)))
  (pss_cons (ps_setLc (i := 3) (own := [("_law_k", 4)]) (by rfl) sc_law_want.nd rfl rfl (sw_true rfl rfl rfl (by decide +kernel)) (pi_range1 (by rfl) M.range (pa_cons (pv 1) pa_nil)) (blkOk_by (own := [("_law_k", 4)]) (N := N_law_want) (sc := defScope s_law_want) (by decide +kernel)) (fun _ _ _ _ _ => (pg_name (i := 4) sc_law_want.nd rfl (Or.inl rfl))) (fun _ _ _ _ _ => pts_nil) (fun _ _ _ _ _ => (pe_ix (ix_listK (K := K) rfl) (pe_lst (pa_cons pe_int (pa_cons pe_int (pa_cons pe_int (pa_cons pe_int (pa_cons pe_int (pa_cons pe_int (pa_cons pe_int (pa_cons pe_int pa_nil))))))))) (pe_op op_mod (pe_op op_fdiv (pv 2) (pe_op op_shl pe_int (pe_op op_mul pe_int (pv 4)))) pe_int) (fun _ _ => rfl))))
  (pss_cons (ps_if (pt_cmpR op_eq (pe_op op_mod (pe_op op_fdiv (pv 2) pe_int) pe_int) pe_int (nomark _))
   (pss_one (ps_setLc (i := 3) (own := [("_law_k", 4)]) (by rfl) sc_law_want.nd rfl rfl (sw_true rfl rfl rfl (by decide +kernel)) (pi_range1 (by rfl) M.range (pa_cons (pv 1) pa_nil)) (blkOk_by (own := [("_law_k", 4)]) (N := N_law_want) (sc := defScope s_law_want) (by decide +kernel)) (fun _ _ _ _ _ => (pg_name (i := 4) sc_law_want.nd rfl (Or.inl rfl))) (fun _ _ _ _ _ => pts_nil) (fun _ _ _ _ _ => (pe_op op_mod (pe_call G_law_pop hr (by rfl) D_law_pop.g D_law_pop.F.kp D_law_pop.b .nil pass0 (pa_cons (pv 0) pa_nil)) pe_int))))
   pss_nil)
  (pss_cons (ps_while PassesOwn.never (pt_cmpR op_gt (pe_call G_law_cases hr (by rfl) D_law_cases.g D_law_cases.F.kp D_law_cases.b .nil pass0 (pa_cons (pv 3) pa_nil)) pe_int (nomark _))
   (pss_one (ps_asg (pe_op op_sub (pe_callB (cr_max rfl) (by rfl) M.max (by decide +kernel) (pa_cons (pv 3) pa_nil)) pe_int) (pg_sub (pv 3) (pe_bm PySem.F.plainAttrs_list PySem.F.slot_list_index PySem.F.type_list_index mt_index (pv 3) (pa_cons (pe_callB (cr_max rfl) (by rfl) M.max (by decide +kernel) (pa_cons (pv 3) pa_nil)) pa_nil)) set_list))))
  (pss_one (ps_ret (pv 3))))))), ?_⟩
    -- number = pop(draws)
    refine ⟨.ref a, rfl, a, ns, rfl, ha, fun H1 s1 h1 => ?_⟩
    generalize ns.headD 0 = n0
    generalize ns.tail = ns1 at h1
    -- the menu
    refine ⟨_, rfl, _, rfl, by omega, by omega, fun B nB => lc_range (lo := 0) (n := (m : Int).toNat) (fun i H' => SameBut a H H' ∧ H' a = some (LI ns1) ∧ ∃ ws, H' B = some (LI ws) ∧ ws.length = i ∧ Small ws) ?_ (fun i H' hi hp => ?_) (fun H2 hp => ?_)⟩
    · have nBa : a ≠ B := ne_of_none h1 nB
      refine ⟨?_, ?_, [], upd_same, rfl, fun w hw => nomatch hw⟩
      · exact s1.new (s1.free nB (by rw [h1]; exact fun z => nomatch z))
      · rw [upd_ne nBa]
        exact h1
    · have nBa : a ≠ B := ne_of_none h1 nB
      have nBH : H B = none := s1.free nB (by rw [h1]; exact fun z => nomatch z)
      obtain ⟨s2, h2, ws, hB, hl, sm⟩ := hp
      have hi4 : i < 4 := by omega
      refine ⟨rfl, by show 8 ≤ sizeLine; decide, fun p np => ?_⟩
      have npB : B ≠ p := ne_of_none hB np
      have npa : a ≠ p := ne_of_none h2 np
      obtain ⟨j, hj, ej⟩ := mod_at (i := n0 / (1 * 2 ^ (3 * (0 + (i : Int))).toNat)) (n := 8) (by decide)
      obtain ⟨v, hv, hv1, hv2⟩ := menu8 hj
      refine ⟨_, rfl, _, rfl, _, _, rfl, rfl, .inl ⟨by decide, by decide⟩, _, _, rfl, rfl, ⟨by omega, by omega, by decide⟩, _, _, rfl, rfl, shl_ok hi4, _, _, rfl, rfl, (by show (0 : Int) < _; decide), p, _, _, _, rfl, rfl, SqL.of upd_same, at_of ej hv, ?_⟩
      have hB2 : (upd H' p (.lst [V.int 0, V.int 1, V.int 2, V.int 9, V.int 4, V.int 5, V.int 3, V.int 1])) B = some (LI ws) := by rw [upd_ne npB]; exact hB
      refine ⟨_, hB2, szL' (by rw [List.length_map]; omega), ?_, ?_, _, at_app, by rw [List.length_append, hl]; rfl, sm.app hv1 hv2⟩
      · exact (s2.new (s2.free np (by rw [h2]; exact fun z => nomatch z))).new nBH
      · rw [upd_ne nBa, upd_ne npa]
        exact h2
    · have nBa : a ≠ B := ne_of_none h1 nB
      have nBH : H B = none := s1.free nB (by rw [h1]; exact fun z => nomatch z)
      obtain ⟨s2, h2, ws, hB, hl, sm⟩ := hp
      -- the end: while and return, from any found list
      have fin : ∀ (L : Addr) (σ : L2.St) (H3 : Hp), σ = [some (.ref a), some (.int m), some (.int n0), some (.ref L), none] → H L = none → a ≠ L → SameBut a H H3 → (∃ ns3, H3 a = some (LI ns3)) → (∃ ws, H3 L = some (LI ws) ∧ ws.length = m ∧ Small ws) →
          ∃ W : Nat → L2.St → Hp → Prop, (∃ μ, W μ σ H3) ∧ ∀ μ σ H4, W μ σ H4 → ∃ ws, W μ σ H4 ∧ σ = [some (.ref a), some (.int m), some (.int n0), some (.ref L), none] ∧ SameBut a H H4 ∧ (∃ ns3, H4 a = some (LI ns3)) ∧ H4 L = some (LI ws) ∧ ws.length = m ∧ Small ws ∧ μ = ws.sum.toNat ∧
            ∀ ws' : List Int, ws'.length = m → Small ws' → ws'.sum < ws.sum → ∃ μ', μ' < μ ∧ W μ' σ (upd H4 L (LI ws')) := by
        intro L σ H3 eσ nL naL s3 h3 h4
        refine ⟨fun μ σ H4 => ∃ ws, σ = [some (.ref a), some (.int m), some (.int n0), some (.ref L), none] ∧ SameBut a H H4 ∧ (∃ ns3, H4 a = some (LI ns3)) ∧ H4 L = some (LI ws) ∧ ws.length = m ∧ Small ws ∧ μ = ws.sum.toNat, ?_, ?_⟩
        · obtain ⟨ws, e1, e2, e3⟩ := h4
          exact ⟨_, ws, eσ, s3, h3, e1, e2, e3, rfl⟩
        · intro μ σ H4 hW
          obtain ⟨ws, e1, e2, ⟨ns3, e3⟩, e4, e5, e6, e7⟩ := id hW
          refine ⟨ws, hW, e1, e2, ⟨ns3, e3⟩, e4, e5, e6, e7, fun ws' l1 l2 l3 => ⟨_, ?_, ws', e1, e2.new nL, ⟨ns3, ?_⟩, upd_same, l1, l2, rfl⟩⟩
          · have p1 : 0 ≤ ws'.sum := sum_nonneg fun w hw => (l2 w hw).1
            omega
          · rw [upd_ne naL]
            exact e3
      have body : ∀ (L : Addr) (H4 : Hp) (ws : List Int), H L = none → a ≠ L → SameBut a H H4 → (∃ ns3, H4 a = some (LI ns3)) → H4 L = some (LI ws) → ws.length = m → Small ws → casesM ws > 400 →
          ∀ mx : Int, mx ∈ ws → (∀ y, y ∈ ws → y ≤ mx) → ∃ j : Nat, ws[j]? = some mx ∧ (∀ (m' : Nat) (z' : V), m' < j → (ws.map V.int)[m']? = some z' → eqV z' (.int mx) = false) ∧ j < ws.length ∧ (ws.set j (mx - 1)).length = m ∧ Small (ws.set j (mx - 1)) ∧ (ws.set j (mx - 1)).sum < ws.sum := by
        intro L H4 ws nL naL s4 h3 h4 hl sm hc mx hmx hle
        obtain ⟨j, h1, h2⟩ := first_at hmx
        have pos : 1 ≤ mx := by
          rcases Int.lt_or_le mx 1 with z | z
          · have e : casesM ws = 1 := casesM_zero ws 1 fun w hw => by
              have a1 := hle w hw
              have a2 := sm w hw
              omega
            omega
          · exact z
        have b := sm mx hmx
        refine ⟨j, h1, fun m' z' hm hz => ?_, (List.getElem?_eq_some_iff.mp h1).1, by rw [List.length_set]; exact hl, fun w hw => ?_, ?_⟩
        · obtain ⟨y, hy, rfl⟩ := of_get_ints hz
          have := h2 m' y hm hy
          show (y == mx) = false
          exact beq_eq_false_iff_ne.mpr this
        · rcases List.mem_or_eq_of_mem_set hw with z | z
          · exact sm w z
          · omega
        · rw [sum_set h1]
          omega
      -- number // 4096 % 4 == 0
      refine ⟨_, rfl, _, _, rfl, rfl, ⟨by decide, by decide⟩, _, _, rfl, rfl, (by show (0 : Int) < _; decide), rfl, _, rfl, ite2 (fun _ => ?_) (fun _ => ?_)⟩
      · refine ⟨_, rfl, _, rfl, by omega, by omega, fun L nL => lc_range (lo := 0) (n := (m : Int).toNat) (fun i H' => SameBut a H H' ∧ (∃ ns3, H' a = some (LI ns3)) ∧ ∃ ws, H' L = some (LI ws) ∧ ws.length = i ∧ Small ws) ?_ (fun i H' hi hp => ?_) (fun H3 hp => ?_)⟩
        · have naL : a ≠ L := ne_of_none h2 nL
          refine ⟨s2.new (s2.free nL (by rw [h2]; exact fun z => nomatch z)), ⟨ns1, ?_⟩, [], upd_same, rfl, fun w hw => nomatch hw⟩
          rw [upd_ne naL]
          exact h2
        · have naL : a ≠ L := ne_of_none h2 nL
          have nLH : H L = none := s2.free nL (by rw [h2]; exact fun z => nomatch z)
          obtain ⟨s3, ⟨ns3, h3⟩, ws, hL, hl, sm⟩ := hp
          refine ⟨rfl, .ref a, rfl, a, ns3, rfl, h3, fun H5 s5 h5 => ⟨_, _, rfl, rfl, (by show (0 : Int) < _; decide), _, s5 L _ naL.symm hL, szL' (by rw [List.length_map]; omega), ?_⟩⟩
          refine ⟨(s3.trans s5).new nLH, ⟨_, by rw [upd_ne naL]; exact h5⟩, _, at_app, by rw [List.length_append, hl]; rfl, sm.app (by omega) (by omega)⟩
        · have naL : a ≠ L := ne_of_none h2 nL
          have nLH : H L = none := s2.free nL (by rw [h2]; exact fun z => nomatch z)
          obtain ⟨s3, h3, ws3, hL, hl3, sm3⟩ := hp
          obtain ⟨W, w0, hW⟩ := fin L _ H3 rfl nLH naL s3 h3 ⟨ws3, hL, hl3, sm3⟩
          refine ⟨W, w0, fun μ σ H4 w4 => ?_⟩
          obtain ⟨ws4, _, rfl, s4, ⟨ns4, h4⟩, hL4, hl4, sm4, eμ, step⟩ := hW μ σ H4 w4
          refine ⟨.ref L, rfl, L, ws4, rfl, SqL.of hL4, sm4.big, _, _, rfl, rfl, _, rfl, ite2 (fun c => ?_) (fun c => ?_)⟩
          · have c2 : casesM ws4 > 400 := of_decide_eq_true c
            refine ⟨fun σ' H' => σ' = [some (.ref a), some (.int m), some (.int n0), some (.ref L), none] ∧ ∃ ws' : List Int, ws'.length = m ∧ Small ws' ∧ ws'.sum < ws4.sum ∧ H' = upd H4 L (LI ws'), fun σ' H' hN => ?_, ?_⟩
            · obtain ⟨rfl, ws', l1, l2, l3, rfl⟩ := hN
              exact step ws' l1 l2 l3
            · refine ⟨_, rfl, L, ws4, rfl, SqL.of hL4, by omega, fun mx hmx hle => ⟨_, _, rfl, rfl, _, rfl, _, rfl, .inl ⟨rfl, _, SqL.of hL4⟩, _, rfl, L, ws4, rfl, SqL.of hL4, by omega, fun mx2 hmx2 hle2 => ?_⟩⟩
              have emx : mx2 = mx := Int.le_antisymm (hle mx2 hmx2) (hle2 mx hmx)
              subst emx
              obtain ⟨j, b1, b2, b3, b4, b5, b6⟩ := body L H4 ws4 nLH naL s4 ⟨ns4, h4⟩ hL4 hl4 sm4 c2 mx2 hmx hle
              refine ⟨L, _, _, j, _, rfl, rfl, SqL.of hL4, rfl, by simp [flatV], get_ints b1, by show (mx2 == mx2) = true; exact beq_self_eq_true _, b2, L, _, _, j, rfl, rfl, hL4, by rw [List.length_map]; exact ixN_nat b3, rfl, _, b4, b5, b6, ?_⟩
              rw [← li_set]
          · exact ⟨_, rfl, q H4 L ws4 ns4 s4 nLH naL.symm hL4 h4 hl4 sm4 (Int.not_lt.mp fun z => c (decide_eq_true z))⟩
      · obtain ⟨W, w0, hW⟩ := fin B _ H2 rfl nBH nBa s2 ⟨ns1, h2⟩ ⟨ws, hB, hl, sm⟩
        refine ⟨W, w0, fun μ σ H4 w4 => ?_⟩
        obtain ⟨ws4, _, rfl, s4, ⟨ns4, h4⟩, hL4, hl4, sm4, eμ, step⟩ := hW μ σ H4 w4
        refine ⟨.ref B, rfl, B, ws4, rfl, SqL.of hL4, sm4.big, _, _, rfl, rfl, _, rfl, ite2 (fun c => ?_) (fun c => ?_)⟩
        · have c2 : casesM ws4 > 400 := of_decide_eq_true c
          refine ⟨fun σ' H' => σ' = [some (.ref a), some (.int m), some (.int n0), some (.ref B), none] ∧ ∃ ws' : List Int, ws'.length = m ∧ Small ws' ∧ ws'.sum < ws4.sum ∧ H' = upd H4 B (LI ws'), fun σ' H' hN => ?_, ?_⟩
          · obtain ⟨rfl, ws', l1, l2, l3, rfl⟩ := hN
            exact step ws' l1 l2 l3
          · refine ⟨_, rfl, B, ws4, rfl, SqL.of hL4, by omega, fun mx hmx hle => ⟨_, _, rfl, rfl, _, rfl, _, rfl, .inl ⟨rfl, _, SqL.of hL4⟩, _, rfl, B, ws4, rfl, SqL.of hL4, by omega, fun mx2 hmx2 hle2 => ?_⟩⟩
            have emx : mx2 = mx := Int.le_antisymm (hle mx2 hmx2) (hle2 mx hmx)
            subst emx
            obtain ⟨j, b1, b2, b3, b4, b5, b6⟩ := body B H4 ws4 nBH nBa s4 ⟨ns4, h4⟩ hL4 hl4 sm4 c2 mx2 hmx hle
            refine ⟨B, _, _, j, _, rfl, rfl, SqL.of hL4, rfl, by simp [flatV], get_ints b1, by show (mx2 == mx2) = true; exact beq_self_eq_true _, b2, B, _, _, j, rfl, rfl, hL4, by rw [List.length_map]; exact ixN_nat b3, rfl, _, b4, b5, b6, ?_⟩
            rw [← li_set]
        · exact ⟨_, rfl, q H4 B ws4 ns4 s4 nBH nBa.symm hL4 h4 hl4 sm4 (Int.not_lt.mp fun z => c (decide_eq_true z))⟩
end
/-! ### tables through calls -/
theorem tabG_same {H H' : Hp} {T : Addr} (s : Same H H') (h : GxR.TabG H T) : GxR.TabG H' T := by
  obtain ⟨ps, h1, h2⟩ := h
  exact ⟨ps, s _ _ h1, h2⟩
theorem tabG_but {H H' : Hp} {T d : Addr} {xs : List V} (s : SameBut d H H') (hd : H d = some (.lst xs)) (h : GxR.TabG H T) : GxR.TabG H' T := by
  obtain ⟨ps, h1, h2⟩ := h
  exact ⟨ps, s _ _ (ne_of h1 hd (fun z => nomatch z)) h1, h2⟩
theorem tabbed_lst {H H' : Hp} {T a : Addr} {xs : List V} (t : GxR.Tabbed T H H') (hT : GxR.TabG H T) (h : H a = some (.lst xs)) : H' a = some (.lst xs) := by
  obtain ⟨ps, h1, h2⟩ := hT
  rw [t.2 a (ne_of h h1 (fun z => nomatch z))]
  exact h
theorem draw4 (x : Int) : ∃ m : Nat, 1 ≤ m ∧ m ≤ 4 ∧ 1 + x % 4 = (m : Int) := ⟨(1 + x % 4).toNat, by omega, by omega, by omega⟩
/-! ### a heap without one address; what is kept apart from tables -/
def cutH (d : Addr) (H : Hp) : Hp := fun b => if b = d then none else H b
section
variable {d : Addr} {H H' : Hp}
theorem cut_at {b : Addr} (h : b ≠ d) : cutH d H b = H b := if_neg h
theorem cut_put {b : Addr} {o : HO} (h : b ≠ d) (e : H b = some o) : cutH d H b = some o := by rw [cut_at h]; exact e
theorem cut_some {b : Addr} {o : HO} (h : cutH d H b = some o) : b ≠ d ∧ H b = some o := by
  unfold cutH at h
  by_cases e : b = d
  · rw [if_pos e] at h
    cases h
  · rw [if_neg e] at h
    exact ⟨e, h⟩
theorem cut_same (s : SameBut d H H') : Same (cutH d H) (cutH d H') := fun b o h => by
  obtain ⟨n, e⟩ := cut_some h
  exact cut_put n (s b o n e)
theorem cut_le : Same (cutH d H) H := fun _ _ h => (cut_some h).2
theorem cut_upd {u : Addr} {o : HO} (h : u ≠ d) : cutH d (upd H u o) = upd (cutH d H) u o := by
  funext b
  by_cases e : b = d
  · rw [e, upd_ne (fun z => h z.symm)]
    unfold cutH
    rw [if_pos rfl, if_pos rfl]
  · rw [cut_at e]
    by_cases e2 : b = u
    · rw [e2, upd_same, upd_same]
    · rw [upd_ne e2, upd_ne e2, cut_at e]
/-- all but tables stay -/
def Ke (H H' : Hp) : Prop := ∀ b o, H b = some o → (∀ ps, o ≠ .tbl ps) → H' b = some o
theorem Ke.refl (H : Hp) : Ke H H := fun _ _ e _ => e
theorem Ke.trans {H1 H2 : Hp} (a : Ke H H1) (b : Ke H1 H2) : Ke H H2 := fun c o e n => b c o (a c o e n) n
theorem Ke.of (s : Same H H') : Ke H H' := fun b o e _ => s b o e
theorem Ke.cut (a : Ke H H') : Ke (cutH d H) (cutH d H') := fun b o e n => by
  obtain ⟨n1, e1⟩ := cut_some e
  exact cut_put n1 (a b o e1 n)
theorem Ke.lst (a : Ke H H') {p : Addr} {xs : List V} (h : H p = some (.lst xs)) : H' p = some (.lst xs) := a _ _ h fun _ z => nomatch z
theorem Ke.tup (a : Ke H H') {p : Addr} {xs : List V} (h : H p = some (.tup xs)) : H' p = some (.tup xs) := a _ _ h fun _ z => nomatch z
theorem Ext.ke {T : List Addr} (e : Ext T H H') : Ke H H' := e.ext
theorem tb_same {T : List Addr} (s : Same H H') (h : Tb T H) : Tb T H' := fun t ht => tabG_same s (h t ht)
theorem tb_but {T : List Addr} {xs : List V} (s : SameBut d H H') (hd : H d = some (.lst xs)) (h : Tb T H) : Tb T H' := fun t ht => tabG_but s hd (h t ht)
theorem TiersAt.ke (e : Ke H H') {a : Addr} {ts : List (Int × Int)} (h : TiersAt H a ts) : TiersAt H' a ts := by
  obtain ⟨us, h1, h2, h3⟩ := h
  exact ⟨us, e.lst h1, h2, fun i u t a b => e.tup (h3 i u t a b)⟩
theorem OfrAt.ke (e : Ke H H') {a : Addr} : ∀ {o : Ofr}, OfrAt H a o → OfrAt H' a o
  | .pack c p, ⟨b, h1, h2⟩ => ⟨b, e.tup h1, e.lst h2⟩
  | .many c ts, ⟨b, t, h1, h2, h3⟩ => ⟨b, t, e.tup h1, e.lst h2, h3.ke e⟩
  | .add c p k, ⟨b, h1, h2⟩ => ⟨b, e.tup h1, e.lst h2⟩
theorem ShopAt.ke (e : Ke H H') {a : Addr} {os : List Ofr} (h : ShopAt H a os) : ShopAt H' a os := by
  obtain ⟨vs, h1, h2, h3⟩ := h
  exact ⟨vs, e.lst h1, h2, fun i v o a b => (h3 i v o a b).ke e⟩
theorem TiersAt.same (s : Same H H') {a : Addr} {ts : List (Int × Int)} (h : TiersAt H a ts) : TiersAt H' a ts := h.ke (.of s)
/-- a tier more -/
theorem TiersAt.push {F u : Addr} {ts : List (Int × Int)} {t : Int × Int} (h : TiersAt H F ts) (nu : H u = none) : ∃ xs, H F = some (.lst xs) ∧ xs.length = ts.length ∧ TiersAt (upd (upd H u (.tup [.int t.1, .int t.2])) F (.lst (xs ++ [.ref u]))) F (ts ++ [t]) := by
  obtain ⟨us, h1, h2, h3⟩ := h
  refine ⟨_, h1, by rw [List.length_map]; exact h2, us ++ [u], ?_, by rw [List.length_append, List.length_append, h2]; rfl, fun i v t' hv ht => ?_⟩
  · rw [upd_same, List.map_append]
    rfl
  · by_cases z : i < us.length
    · rw [List.getElem?_append_left z] at hv
      rw [List.getElem?_append_left (by omega)] at ht
      have e := h3 i v t' hv ht
      rw [upd_ne (ne_of e h1 (fun z => nomatch z)), upd_ne (ne_of_none e nu)]
      exact e
    · rw [List.getElem?_append_right (by omega)] at hv
      rw [List.getElem?_append_right (by omega)] at ht
      rw [← h2] at ht
      have ei : i - us.length = 0 := by
        rcases Nat.eq_zero_or_pos (i - us.length) with z | z
        · exact z
        · rw [List.getElem?_eq_none (by rw [List.length_singleton]; omega)] at hv
          cases hv
      rw [ei] at hv ht
      cases Option.some.inj hv
      cases Option.some.inj ht
      rw [upd_ne (fun z => by rw [z, h1] at nu; cases nu), upd_same]
end
/-! ### lines, as lists -/
/-- place by place -/
def Al {α : Type} (R : Addr → α → Prop) : List Addr → List α → Prop
  | [], [] => True
  | a :: as, x :: xs => R a x ∧ Al R as xs
  | _, _ => False
section
variable {α : Type} {R R' : Addr → α → Prop}
theorem Al.len : ∀ {as : List Addr} {xs : List α}, Al R as xs → as.length = xs.length
  | [], [], _ => rfl
  | [], _ :: _, h => h.elim
  | _ :: _, [], h => h.elim
  | _ :: _, _ :: _, h => by rw [List.length_cons, List.length_cons, Al.len h.2]
theorem Al.app : ∀ {as bs : List Addr} {xs ys : List α}, Al R as xs → Al R bs ys → Al R (as ++ bs) (xs ++ ys)
  | [], _, [], _, _, k => k
  | [], _, _ :: _, _, h, _ => h.elim
  | _ :: _, _, [], _, h, _ => h.elim
  | _ :: _, _, _ :: _, _, h, k => ⟨h.1, Al.app h.2 k⟩
theorem Al.imp (f : ∀ a x, R a x → R' a x) : ∀ {as : List Addr} {xs : List α}, Al R as xs → Al R' as xs
  | [], [], _ => True.intro
  | [], _ :: _, h => h.elim
  | _ :: _, [], h => h.elim
  | _ :: _, _ :: _, h => ⟨f _ _ h.1, Al.imp f h.2⟩
theorem Al.impM : ∀ {as : List Addr} {xs : List α}, (∀ a x, a ∈ as → R a x → R' a x) → Al R as xs → Al R' as xs
  | [], [], _, _ => True.intro
  | [], _ :: _, _, h => h.elim
  | _ :: _, [], _, h => h.elim
  | _ :: _, _ :: _, f, h => ⟨f _ _ List.mem_cons_self h.1, Al.impM (fun a x m => f a x (List.mem_cons_of_mem _ m)) h.2⟩
theorem Al.get : ∀ {as : List Addr} {xs : List α} {i : Nat} {a : Addr}, Al R as xs → as[i]? = some a → ∃ x, xs[i]? = some x ∧ R a x
  | [], [], _, _, _, e => by simp at e
  | [], _ :: _, _, _, h, _ => h.elim
  | _ :: _, [], _, _, h, _ => h.elim
  | _ :: _, x :: _, 0, _, h, e => by cases Option.some.inj e; exact ⟨x, rfl, h.1⟩
  | _ :: _, _ :: _, i + 1, _, h, e => Al.get (i := i) h.2 e
theorem Al.drop1 : ∀ {as : List Addr} {xs : List α}, Al R as xs → Al R (as.drop 1) xs.tail
  | [], [], _ => True.intro
  | [], _ :: _, h => h.elim
  | _ :: _, [], h => h.elim
  | _ :: _, _ :: _, h => h.2
theorem Al.one {a : Addr} {x : α} (h : R a x) : Al R [a] [x] := ⟨h, True.intro⟩
end
/-- a new list of ints, apart from C -/
def RowB (H0 H : Hp) (C : Addr) (a : Addr) (r : List Int) : Prop := H a = some (LI r) ∧ H0 a = none ∧ a ≠ C
def RowF (H0 H : Hp) (a : Addr) (r : List Int) : Prop := H a = some (LI r) ∧ H0 a = none
theorem RowB.keep {H0 H H' : Hp} {C a : Addr} {r : List Int} (s : SameBut C H H') (h : RowB H0 H C a r) : RowB H0 H' C a r := ⟨s _ _ h.2.2 h.1, h.2⟩
theorem RowF.keep {H0 H H' : Hp} {a : Addr} {r : List Int} (s : Same H H') (h : RowF H0 H a r) : RowF H0 H' a r := ⟨s _ _ h.1, h.2⟩
theorem RowB.toF {H0 H : Hp} {C a : Addr} {r : List Int} (h : RowB H0 H C a r) : RowF H0 H a r := ⟨h.1, h.2.1⟩
structure Ln where
  p : Int
  c : Int
  as : List Int
/-- a line, its tuple and its list new -/
def LineF (H0 H : Hp) (a : Addr) (l : Ln) : Prop := ∃ b, H a = some (.tup [.int l.p, .int l.c, .ref b]) ∧ H b = some (LI l.as) ∧ H0 a = none ∧ H0 b = none
def LineB (H0 H : Hp) (B : Addr) (a : Addr) (l : Ln) : Prop := ∃ b, H a = some (.tup [.int l.p, .int l.c, .ref b]) ∧ H b = some (LI l.as) ∧ H0 a = none ∧ H0 b = none ∧ a ≠ B ∧ b ≠ B
theorem LineB.keep {H0 H H' : Hp} {B a : Addr} {l : Ln} (s : SameBut B H H') (h : LineB H0 H B a l) : LineB H0 H' B a l := by
  obtain ⟨b, h1, h2, h3, h4, h5, h6⟩ := h
  exact ⟨b, s _ _ h5 h1, s _ _ h6 h2, h3, h4, h5, h6⟩
theorem LineB.toF {H0 H : Hp} {B a : Addr} {l : Ln} (h : LineB H0 H B a l) : LineF H0 H a l := by
  obtain ⟨b, h1, h2, h3, h4, _⟩ := h
  exact ⟨b, h1, h2, h3, h4⟩
theorem LineF.toB {H0 H1 H : Hp} {B a : Addr} {l : Ln} (h : LineF H1 H a l) (f : ∀ b, H1 b = none → H0 b = none) (hB : H1 B ≠ none) : LineB H0 H B a l := by
  obtain ⟨b, h1, h2, h3, h4⟩ := h
  exact ⟨b, h1, h2, f _ h3, f _ h4, fun z => hB (by rw [← z]; exact h3), fun z => hB (by rw [← z]; exact h4)⟩
def LinesF (H0 H : Hp) (q : Addr) (ls : List Ln) : Prop := ∃ as : List Addr, H q = some (.lst (as.map V.ref)) ∧ Al (LineF H0 H) as ls
def isAdd (os : List Ofr) (p : Int) (i : Nat) : Bool := match os[i]? with
  | some (.add _ _ k) => decide (k = p)
  | _ => false
def addsN (os : List Ofr) (p : Int) (n : Nat) : List Int := ((List.range n).filter (isAdd os p)).map fun (i : Nat) => (i : Int)
def addsM (os : List Ofr) (p : Int) : List Int := addsN os p os.length
theorem addsN_len (os : List Ofr) (p : Int) (n : Nat) : (addsN os p n).length ≤ n := by
  unfold addsN
  rw [List.length_map]
  exact Nat.le_trans (List.length_filter_le _ _) (by rw [List.length_range]; exact Nat.le_refl _)
theorem addsN_yes {os : List Ofr} {p : Int} {n : Nat} (h : isAdd os p n = true) : addsN os p (n + 1) = addsN os p n ++ [(n : Int)] := by
  unfold addsN
  rw [List.range_succ, List.filter_append, List.map_append]
  simp [h]
theorem addsN_no {os : List Ofr} {p : Int} {n : Nat} (h : isAdd os p n = false) : addsN os p (n + 1) = addsN os p n := by
  unfold addsN
  rw [List.range_succ, List.filter_append, List.map_append]
  simp [h]
def choicesM : List Int → List (List Int)
  | [] => [[]]
  | p :: ps => ([[]] ++ (choicesM ps).map (p :: ·)) ++ (choicesM ps).tail
theorem choicesM_len : ∀ ps : List Int, (choicesM ps).length = 2 ^ ps.length
  | [] => rfl
  | p :: ps => by
    have ih := choicesM_len ps
    have pos : 0 < 2 ^ ps.length := Nat.pow_pos (by decide)
    show (([[]] ++ (choicesM ps).map (p :: ·)) ++ (choicesM ps).tail).length = 2 ^ (ps.length + 1)
    rw [List.length_append, List.length_append, List.length_map, List.length_tail, ih, Nat.pow_succ]
    show 1 + 2 ^ ps.length + (2 ^ ps.length - 1) = _
    omega
theorem choicesM_le {ps : List Int} (h : ps.length ≤ 8) : (choicesM ps).length ≤ 256 := by
  rw [choicesM_len]
  exact Nat.le_trans (Nat.pow_le_pow_right (by decide) h) (by decide)
def linesAtM (os : List Ofr) (p : Nat) : List Ln := match os[p]? with
  | some (.pack _ _) => (choicesM (addsM os p)).map fun c => ⟨p, 1, c⟩
  | some (.many _ _) => (List.range 12).map fun i => ⟨p, 1 + (i : Nat), []⟩
  | _ => []
def linesM (os : List Ofr) : List Ln := (List.range os.length).flatMap (linesAtM os)
theorem linesAtM_len {os : List Ofr} (h : os.length ≤ 8) (p : Nat) : (linesAtM os p).length ≤ 256 := by
  unfold linesAtM
  split
  · rw [List.length_map]
    exact choicesM_le (Nat.le_trans (addsN_len _ _ _) h)
  · rw [List.length_map, List.length_range]
    decide
  · decide
theorem linesN_len {os : List Ofr} (h : os.length ≤ 8) : ∀ n : Nat, ((List.range n).flatMap (linesAtM os)).length ≤ n * 256
  | 0 => by simp
  | n + 1 => by
    have ih := linesN_len h n
    have := linesAtM_len h n
    rw [List.range_succ, List.flatMap_append, List.length_append, List.flatMap_singleton]
    omega
theorem OfrAt.same {H H' : Hp} (s : Same H H') {a : Addr} : ∀ {o : Ofr}, OfrAt H a o → OfrAt H' a o
  | .pack c p, ⟨b, h1, h2⟩ => ⟨b, s _ _ h1, s _ _ h2⟩
  | .many c ts, ⟨b, t, h1, h2, us, h3, h4, h5⟩ => ⟨b, t, s _ _ h1, s _ _ h2, us, s _ _ h3, h4, fun i u t a b => s _ _ (h5 i u t a b)⟩
  | .add c p k, ⟨b, h1, h2⟩ => ⟨b, s _ _ h1, s _ _ h2⟩
theorem ShopAt.same {H H' : Hp} (s : Same H H') {a : Addr} {os : List Ofr} (h : ShopAt H a os) : ShopAt H' a os := by
  obtain ⟨vs, h1, h2, h3⟩ := h
  exact ⟨vs, s _ _ h1, h2, fun i v o a b => (h3 i v o a b).same s⟩
/-! ### lines: what they hold and cost, as lists -/
def togM (a b : List Int) : List Int := List.zipWith (· + ·) a b
theorem togM_get {a b : List Int} {i : Nat} {x y : Int} (h : a[i]? = some x) (h2 : b[i]? = some y) : (togM a b)[i]? = some (x + y) := by
  unfold togM
  rw [List.getElem?_zipWith, h, h2]
theorem togM_len (a b : List Int) : (togM a b).length = min a.length b.length := by
  unfold togM
  rw [List.length_zipWith]
def contAt (os : List Ofr) (x : Int) : List Int := match os[x.toNat]? with
  | some o => o.cont
  | none => []
def contM (os : List Ofr) (l : Ln) : List Int := l.as.foldl (fun acc x => togM acc (contAt os x)) ((contAt os l.p).map (l.c * ·))
def pieceL (ts : List (Int × Int)) (c : Int) : List Int := (ts.filter fun t => decide (t.1 ≤ c)).map (·.2)
def pieceM (ts : List (Int × Int)) (c : Int) : Int := (pieceL ts c).getLastD 0
def addPr (os : List Ofr) (x : Int) : Int := match os[x.toNat]? with
  | some (.add _ p _) => p
  | some (.pack _ p) => p
  | _ => 0
def priceM (os : List Ofr) (l : Ln) : Int := match os[l.p.toNat]? with
  | some (.many _ ts) => l.c * pieceM ts l.c
  | some (.pack _ p) => p + (l.as.map (addPr os)).sum
  | _ => 0
/-- l is a line of os -/
def LineOk (os : List Ofr) (l : Ln) : Prop := ∃ p : Nat, l.p = (p : Int) ∧ ((∃ c ts, os[p]? = some (.many c ts) ∧ GoodT ts ∧ 1 ≤ l.c ∧ l.c ≤ 12 ∧ l.as = []) ∨
  (∃ c pr, os[p]? = some (.pack c pr) ∧ l.c = 1 ∧ l.as.length ≤ 8 ∧ ∀ x ∈ l.as, ∃ j : Nat, x = (j : Int) ∧ ∃ c' pr' k, os[j]? = some (.add c' pr' k)))
/-- contents are short, prices of adds within bounds -/
def Fit (os : List Ofr) : Prop := ∀ o ∈ os, o.cont.length ≤ 1000 ∧ ∀ c p k, o = .add c p k → -10000000000000000 ≤ p ∧ p ≤ 10000000000000000
def LineAt (H : Hp) (a : Addr) (l : Ln) : Prop := ∃ b, H a = some (.tup [.int l.p, .int l.c, .ref b]) ∧ H b = some (LI l.as)
theorem LineF.at {H0 H : Hp} {a : Addr} {l : Ln} (h : LineF H0 H a l) : LineAt H a l := by
  obtain ⟨b, h1, h2, _⟩ := h
  exact ⟨b, h1, h2⟩
theorem LineAt.ext {T : List Addr} {H H' : Hp} {a : Addr} {l : Ln} (e : Ext T H H') (h : LineAt H a l) : LineAt H' a l := by
  obtain ⟨b, h1, h2⟩ := h
  exact ⟨b, e.tup h1, e.lst h2⟩
theorem contAt_get {os : List Ofr} {j : Nat} {o : Ofr} (h : os[j]? = some o) : contAt os (j : Int) = o.cont := by
  unfold contAt
  rw [Int.toNat_natCast, h]
theorem pieceL_take {ts : List (Int × Int)} {c : Int} {i : Nat} {t : Int × Int} (h : ts[i]? = some t) : pieceL (ts.take (i + 1)) c = if t.1 ≤ c then pieceL (ts.take i) c ++ [t.2] else pieceL (ts.take i) c := by
  unfold pieceL
  rw [take_succ_at h, List.filter_append, List.map_append]
  by_cases z : t.1 ≤ c
  · rw [if_pos z]
    simp [z]
  · rw [if_neg z]
    simp [z]
/-! ### _law_content, _law_price, _law_tiers -/
abbrev s_law_content : Stmt := topS 77
abbrev N_law_content : List Str := ["_law_draws_here", "_law_many", "_law_found"]
theorem sc_law_content : FnScope N_law_content ["_law_draws_here", "_law_many"] (defScope s_law_content) := ⟨rfl, rfl, rfl, by decide +kernel, rfl, by decide +kernel, by decide +kernel⟩

abbrev s_law_price : Stmt := topS 78
abbrev N_law_price : List Str := ["_law_draws_here", "_law_number"]
theorem sc_law_price : FnScope N_law_price ["_law_draws_here"] (defScope s_law_price) := ⟨rfl, rfl, rfl, by decide +kernel, rfl, by decide +kernel, by decide +kernel⟩

def sp_content : Sp := fun vs H Q _ => ∃ (a : Addr) (ns : List Int) (m : Nat), vs = [.ref a, .int m] ∧ H a = some (LI ns) ∧ 1 ≤ m ∧ m ≤ 4 ∧
  ∀ H' p ws ns', SameBut a H H' → H p = none → p ≠ a → H' p = some (LI ws) → H' a = some (LI ns') → ws.length = m → Small ws → Q (.ref p) H'
def sp_price : Sp := fun vs H Q _ => ∃ (a : Addr) (ns : List Int), vs = [.ref a] ∧ H a = some (LI ns) ∧ ∀ H' ns' p, SameBut a H H' → H' a = some (LI ns') → 0 ≤ p → p < 1000000000000 → Q (.int p) H'
section
variable {P : Program} {w : World} {K : PySem.W.Frag} {mg : Str → Option Value} {base : Heap}
theorem ok_content {f f1 f2 f3 : Addr} {fd fd1 fd2 fd3 : FuncData} {k : Nat} (M : Names mg) (D : Def K mg "_law_content" s_law_content ["_law_draws_here", "_law_many"] f fd) (D_law_want : Def K mg "_law_want" s_law_want ["_law_draws_here", "_law_many"] f1 fd1) (D_law_pop : Def K mg "_law_pop" s_law_pop ["_law_draws_here"] f2 fd2) (D_law_cases : Def K mg "_law_cases" s_law_cases ["_law_want_here"] f3 fd3) :
    FnOk P w K mg base CX0 (k + 3) f fd ["_law_draws_here", "_law_many"] sp_content := by
  have G_law_want : FnOk P w K mg base CX0 (k + 2) f1 fd1 ["_law_draws_here", "_law_many"] sp_want := ok_want M D_law_want D_law_pop D_law_cases
  have G_law_pop : FnOk P w K mg base CX0 (k + 2) f2 fd2 ["_law_draws_here"] sp_pop := ok_pop D_law_pop
  refine D.F.ok sc_law_content (fun vs H Q E h => ?_) (fun cdv A outer s H vs Q E hr h => ?_)
  · obtain ⟨a, ns, m, rfl, _⟩ := h
    rfl
  · obtain ⟨a, ns, m, rfl, ha, hm1, hm4, q⟩ := h
    refine ⟨_, (pss_cons (ps_set (i := 2) sc_law_content.nd rfl (Or.inl rfl) (pe_call G_law_want hr (by rfl) D_law_want.g D_law_want.F.kp D_law_want.b .nil pass0 (pa_cons (pv 0) (pa_cons (pv 1) pa_nil))))
  (pss_cons (ps_if (pt_cmpR op_eq (pe_callB (cr_sum rfl) (by rfl) M.sum (by decide +kernel) (pa_cons (pv 2) pa_nil)) pe_int (nomark _))
   (pss_one (ps_asg (pe_op op_add pe_int (pe_op op_mod (pe_call G_law_pop hr (by rfl) D_law_pop.g D_law_pop.F.kp D_law_pop.b .nil pass0 (pa_cons (pv 0) pa_nil)) pe_int)) (pg_sub (pv 2) (pe_op op_mod (pe_call G_law_pop hr (by rfl) D_law_pop.g D_law_pop.F.kp D_law_pop.b .nil pass0 (pa_cons (pv 0) pa_nil)) (pv 1)) set_list)))
   pss_nil)
  (pss_one (ps_ret (pv 2))))), ?_⟩
    refine ⟨_, rfl, _, rfl, a, ns, m, rfl, ha, hm1, hm4, fun H1 p ws ns1 s1 np npa hp ha1 hl sm _ => ?_⟩
    refine ⟨_, rfl, p, ws, rfl, SqL.of hp, rfl, _, rfl, ite2 (fun _ => ?_) (fun _ => ?_)⟩
    · refine ⟨_, rfl, a, ns1, rfl, ha1, fun H2 s2 ha2 => ⟨_, _, rfl, rfl, (by show (0 : Int) < _; decide), _, _, rfl, rfl, ?_⟩⟩
      refine ⟨_, rfl, _, rfl, a, _, rfl, ha2, fun H3 s3 ha3 => ?_⟩
      have hp3 := s3 _ _ npa (s2 _ _ npa hp)
      obtain ⟨j, hj, ej⟩ := mod_at (i := ns1.tail.headD 0) (n := m) (by omega)
      refine ⟨_, rfl, _, _, rfl, rfl, (by show (0 : Int) < (m : Int); omega), p, _, _, j, rfl, rfl, hp3, (by rw [ej, List.length_map]; exact ixN_nat (by omega)), _, rfl, ?_⟩
      refine q _ p (ws.set j (1 + ns1.headD 0 % 9)) ns1.tail.tail (((s1.trans s2).trans s3).new np) np npa ?_ ?_ (by rw [List.length_set]; exact hl) (fun x hx => ?_)
      · exact at_set
      · rw [upd_ne npa.symm]
        exact ha3
      · rcases List.mem_or_eq_of_mem_set hx with z | z
        · exact sm x z
        · rw [z]
          omega
    · exact ⟨_, rfl, q H1 p ws ns1 s1 np npa hp ha1 hl sm⟩
theorem menu4 {a b c e : Int} {j : Nat} (h : j < 4) (h1 : 0 ≤ a ∧ a < 1000000000000) (h2 : 0 ≤ b ∧ b < 1000000000000) (h3 : 0 ≤ c ∧ c < 1000000000000) (h4 : 0 ≤ e ∧ e < 1000000000000) : ∃ v : Int, ([V.int a, V.int b, V.int c, V.int e] : List V)[j]? = some (.int v) ∧ 0 ≤ v ∧ v < 1000000000000 :=
  match j, h with
  | 0, _ => ⟨a, rfl, h1⟩
  | 1, _ => ⟨b, rfl, h2⟩
  | 2, _ => ⟨c, rfl, h3⟩
  | 3, _ => ⟨e, rfl, h4⟩
theorem ok_price {f f1 : Addr} {fd fd1 : FuncData} {k : Nat} (D : Def K mg "_law_price" s_law_price ["_law_draws_here"] f fd) (D_law_pop : Def K mg "_law_pop" s_law_pop ["_law_draws_here"] f1 fd1) :
    FnOk P w K mg base CX0 (k + 2) f fd ["_law_draws_here"] sp_price := by
  have G_law_pop : FnOk P w K mg base CX0 (k + 1) f1 fd1 ["_law_draws_here"] sp_pop := ok_pop D_law_pop
  refine D.F.ok sc_law_price (fun vs H Q E h => ?_) (fun cdv A outer s H vs Q E hr h => ?_)
  · obtain ⟨a, ns, rfl, _⟩ := h
    rfl
  · obtain ⟨a, ns, rfl, ha, q⟩ := h
    refine ⟨_, (pss_cons (ps_set (i := 1) sc_law_price.nd rfl (Or.inl rfl) (pe_call G_law_pop hr (by rfl) D_law_pop.g D_law_pop.F.kp D_law_pop.b .nil pass0 (pa_cons (pv 0) pa_nil)))
  (pss_one (ps_ret (pe_ix ix_list (pe_lst (pa_cons (pe_op op_mod (pe_op op_fdiv (pv 1) pe_int) pe_int) (pa_cons (pe_op op_mod (pe_op op_fdiv (pv 1) pe_int) pe_int) (pa_cons pe_int (pa_cons (pe_op op_mod (pe_op op_mul (pv 1) pe_int) (pe_op op_pow pe_int pe_int)) pa_nil))))) (pe_op op_mod (pv 1) pe_int) (fun _ _ => rfl))))), ?_⟩
    refine ⟨_, rfl, a, ns, rfl, ha, fun H1 s1 ha1 => ?_⟩
    generalize ns.headD 0 = n
    refine ⟨_, rfl, _, _, rfl, rfl, ⟨by decide, by decide⟩, _, _, rfl, rfl, (by show (0 : Int) < _; decide), ?_⟩
    refine ⟨_, rfl, _, _, rfl, rfl, ⟨by decide, by decide⟩, _, _, rfl, rfl, (by show (0 : Int) < _; decide), ?_⟩
    refine ⟨_, rfl, _, _, rfl, rfl, .inr ⟨by decide, by decide⟩, _, _, rfl, rfl, ⟨by decide, by decide, by decide⟩, _, _, rfl, rfl, (by show (0 : Int) < _; decide), by show 4 ≤ sizeLine; decide, fun e ne => ?_⟩
    obtain ⟨j, hj, ej⟩ := mod_at (i := n) (n := 4) (by decide)
    have e12 : (10 : Int) ^ (12 : Int).toNat = 1000000000000 := by decide
    obtain ⟨v, hv, hv0, hv1⟩ := menu4 (a := n / 4 % 30) (b := n / 4 % 1000) (c := 0) (e := n * 7919 % 10 ^ (12 : Int).toNat) hj (by omega) (by omega) (by omega) (by rw [e12]; omega)
    refine ⟨_, rfl, _, _, rfl, rfl, (by show (0 : Int) < _; decide), e, _, _, _, rfl, rfl, SqL.of upd_same, at_of ej hv, ?_⟩
    exact q _ _ v (s1.trans (.of (same_upd ne))) (by rw [upd_ne (ne_of_none ha1 ne)]; exact ha1) hv0 hv1
end
/-! ### offers within bounds -/
def PriceT (ts : List (Int × Int)) : Prop := ∀ t ∈ ts, 0 ≤ t.2 ∧ t.2 < 1000000000000
theorem cut_off {d : Addr} {H : Hp} {o : HO} : cutH d (upd H d o) = cutH d H := by
  funext b
  by_cases e : b = d
  · unfold cutH
    rw [if_pos e, if_pos e]
  · rw [cut_at e, cut_at e, upd_ne e]
theorem cut_mono {d : Addr} {H H' : Hp} (s : Same H H') : Same (cutH d H) (cutH d H') := cut_same (.of s)
theorem TiersAt.cut {H : Hp} {S t : Addr} {ts : List (Int × Int)} {xs : List V} (h : TiersAt H t ts) (n : t ≠ S) (hS : H S = some (.lst xs)) : TiersAt (cutH S H) t ts := by
  obtain ⟨us, h1, h2, h3⟩ := h
  refine ⟨us, cut_put n h1, h2, fun i u t a b => ?_⟩
  have e := h3 i u t a b
  exact cut_put (ne_of e hS (fun z => nomatch z)) e
def FitO (m : Nat) : Ofr → Prop
  | .pack c p => c.length = m ∧ Small c ∧ 0 ≤ p ∧ p < 1000000000000
  | .many c ts => c.length = m ∧ Small c ∧ PriceT ts
  | .add c p _ => c.length = m ∧ Small c ∧ 0 ≤ p ∧ p < 1000000000000
def FitS (m : Nat) (os : List Ofr) : Prop := ∀ o ∈ os, FitO m o
theorem FitO.cont {m : Nat} : ∀ {o : Ofr}, FitO m o → o.cont.length = m ∧ Small o.cont
  | .pack _ _, h => ⟨h.1, h.2.1⟩
  | .many _ _, h => ⟨h.1, h.2.1⟩
  | .add _ _ _, h => ⟨h.1, h.2.1⟩
theorem FitS.fit {m : Nat} {os : List Ofr} (hm : m ≤ 4) (h : FitS m os) : Fit os := fun o ho => by
  refine ⟨?_, fun c p k e => ?_⟩
  · have := (h o ho).cont.1
    omega
  · subst e
    have := h _ ho
    exact ⟨by have := this.2.2.1; omega, by have := this.2.2.2; omega⟩
theorem FitS.push {m : Nat} {os : List Ofr} {o : Ofr} (h : FitS m os) (ho : FitO m o) : FitS m (os ++ [o]) := fun x hx => by
  rcases List.mem_append.mp hx with z | z
  · exact h x z
  · rw [List.mem_singleton.mp z]
    exact ho
theorem GoodO.mono {os : List Ofr} {i : Nat} {x : Ofr} : ∀ {o : Ofr}, GoodO os i o → GoodO (os ++ [x]) i o
  | .pack _ _, _ => True.intro
  | .many _ _, h => h
  | .add _ _ _, ⟨j, e, hj, c, p, h⟩ => ⟨j, e, hj, c, p, by rw [List.getElem?_append_left (List.getElem?_eq_some_iff.mp h).1]; exact h⟩
theorem Good.push {os : List Ofr} {o : Ofr} (h : Good os) (h8 : os.length < 8) (ho : GoodO os os.length o) : Good (os ++ [o]) := by
  refine ⟨by rw [List.length_append, List.length_singleton]; omega, fun i x hx => ?_⟩
  by_cases z : i < os.length
  · rw [List.getElem?_append_left z] at hx
    exact (h.2 i x hx).mono
  · have hi := (List.getElem?_eq_some_iff.mp hx).1
    rw [List.length_append, List.length_singleton] at hi
    have ei : i = os.length := by omega
    rw [List.getElem?_append_right (by omega), ei, Nat.sub_self] at hx
    cases Option.some.inj hx
    rw [ei]
    exact ho.mono
/-! ### _law_tiers -/
abbrev s_law_tiers : Stmt := topS 79
abbrev N_law_tiers : List Str := ["_law_draws_here", "_law_found", "_law_at", "_law_k", "_law_number"]
theorem sc_law_tiers : FnScope N_law_tiers ["_law_draws_here"] (defScope s_law_tiers) := ⟨rfl, rfl, rfl, by decide +kernel, rfl, by decide +kernel, by decide +kernel⟩

def sp_tiers : Sp := fun vs H Q _ => ∃ (a : Addr) (ns : List Int), vs = [.ref a] ∧ H a = some (LI ns) ∧
  ∀ H' p ts ns', SameBut a H H' → H p = none → TiersAt (cutH a H') p ts → GoodT ts → PriceT ts → H' a = some (LI ns') → Q (.ref p) H'
structure RiseT (ts : List (Int × Int)) (z : Int) (i : Nat) : Prop where
  few : ts.length ≤ i
  none : ts = [] → z = 1 ∧ i = 0
  one : ∀ t, ts[0]? = some t → t.1 = 1
  most : ∀ t ∈ ts, t.1 ≤ 12 ∧ t.1 < z
  rise : ∀ (i : Nat) a b, ts[i]? = some a → ts[i + 1]? = some b → a.1 < b.1
  pr : PriceT ts
theorem RiseT.push {ts : List (Int × Int)} {z z' p : Int} {i : Nat} (h : RiseT ts z i) (hz : z < 13) (hz' : z < z') (h0 : 0 ≤ p) (h1 : p < 1000000000000) : RiseT (ts ++ [(z, p)]) z' (i + 1) := by
  refine ⟨?_, fun e => ?_, fun t e => ?_, fun t ht => ?_, fun j a b ha hb => ?_, fun t ht => ?_⟩
  · have := h.few
    rw [List.length_append, List.length_singleton]
    omega
  · simp at e
  · cases hts : ts with
    | nil =>
      rw [hts] at e
      cases Option.some.inj e
      exact (h.none hts).1
    | cons x r =>
      rw [hts] at e
      exact h.one t (by rw [hts]; exact e)
  · rcases List.mem_append.mp ht with m | m
    · have := h.most t m
      exact ⟨this.1, by omega⟩
    · rw [List.mem_singleton.mp m]
      exact ⟨by show z ≤ 12; omega, hz'⟩
  · by_cases c : j + 1 < ts.length
    · rw [List.getElem?_append_left (by omega)] at ha
      rw [List.getElem?_append_left c] at hb
      exact h.rise j a b ha hb
    · have hj : j + 1 = ts.length := by
        have := (List.getElem?_eq_some_iff.mp hb).1
        rw [List.length_append, List.length_singleton] at this
        omega
      rw [List.getElem?_append_left (by omega)] at ha
      rw [List.getElem?_append_right (by omega), hj, Nat.sub_self] at hb
      cases Option.some.inj hb
      exact (h.most a (List.mem_of_getElem? ha)).2
  · rcases List.mem_append.mp ht with m | m
    · exact h.pr t m
    · rw [List.mem_singleton.mp m]
      exact ⟨h0, h1⟩
theorem RiseT.pass {ts : List (Int × Int)} {z z' : Int} {i : Nat} (h : RiseT ts z i) (hz : ¬z < 13) (hz' : z < z') : RiseT ts z' (i + 1) := by
  refine ⟨by have := h.few; omega, fun e => ?_, h.one, fun t ht => ?_, h.rise, h.pr⟩
  · have := h.none e
    omega
  · have := h.most t ht
    exact ⟨this.1, by omega⟩
theorem RiseT.good {ts : List (Int × Int)} {z : Int} {i : Nat} (h : RiseT ts z i) (h1 : 1 ≤ i) (h4 : i ≤ 4) : GoodT ts := by
  refine ⟨?_, by have := h.few; omega, h.one, fun t ht => (h.most t ht).1, h.rise⟩
  rcases Nat.eq_zero_or_pos ts.length with z | z
  · have := (h.none (List.eq_nil_of_length_eq_zero z)).2
    omega
  · exact z
theorem menu3 {j : Nat} (h : j < 3) : ∃ v : Int, ([V.int 1, V.int 3, V.int 8] : List V)[j]? = some (.int v) ∧ 0 < v :=
  match j, h with
  | 0, _ => ⟨1, rfl, by decide⟩
  | 1, _ => ⟨3, rfl, by decide⟩
  | 2, _ => ⟨8, rfl, by decide⟩
section
variable {P : Program} {w : World} {K : PySem.W.Frag} {mg : Str → Option Value} {base : Heap}
theorem ok_tiers {f f1 f2 : Addr} {fd fd1 fd2 : FuncData} {k : Nat} (M : Names mg) (D : Def K mg "_law_tiers" s_law_tiers ["_law_draws_here"] f fd) (D_law_price : Def K mg "_law_price" s_law_price ["_law_draws_here"] f1 fd1) (D_law_pop : Def K mg "_law_pop" s_law_pop ["_law_draws_here"] f2 fd2) :
    FnOk P w K mg base CX0 (k + 3) f fd ["_law_draws_here"] sp_tiers := by
  have G_law_price : FnOk P w K mg base CX0 (k + 2) f1 fd1 ["_law_draws_here"] sp_price := ok_price D_law_price D_law_pop
  have G_law_pop : FnOk P w K mg base CX0 (k + 2) f2 fd2 ["_law_draws_here"] sp_pop := ok_pop D_law_pop
  refine D.F.ok sc_law_tiers (fun vs H Q E h => ?_) (fun cdv A outer s H vs Q E hr h => ?_)
  · obtain ⟨a, ns, rfl, _⟩ := h
    rfl
  · obtain ⟨a, ns, rfl, ha, q⟩ := h
    refine ⟨_, (pss_cons (ps_set (i := 1) sc_law_tiers.nd rfl (Or.inl rfl) (pe_lst pa_nil))
  (pss_cons (ps_set (i := 2) sc_law_tiers.nd rfl (Or.inl rfl) pe_int)
  (pss_cons (ps_for PassesOwn.never rfl (pi_range1 (by rfl) M.range (pa_cons (pe_op op_add pe_int (pe_op op_mod (pe_call G_law_pop hr (by rfl) D_law_pop.g D_law_pop.F.kp D_law_pop.b .nil pass0 (pa_cons (pv 0) pa_nil)) pe_int)) pa_nil)) (pg_name (i := 3) sc_law_tiers.nd rfl (Or.inl rfl))
   (pss_cons (ps_set (i := 4) sc_law_tiers.nd rfl (Or.inl rfl) (pe_call G_law_pop hr (by rfl) D_law_pop.g D_law_pop.F.kp D_law_pop.b .nil pass0 (pa_cons (pv 0) pa_nil)))
  (pss_cutI (ps_if (pt_cmpR op_lt (pv 2) pe_int (nomark _))
   (pss_one (ps_expr (pe_bm PySem.F.plainAttrs_list PySem.F.slot_list_append PySem.F.type_list_append mt_append (pv 1) (pa_cons (pe_tup (pa_cons (pv 2) (pa_cons (pe_call G_law_price hr (by rfl) D_law_price.g D_law_price.F.kp D_law_price.b .nil pass0 (pa_cons (pv 0) pa_nil)) pa_nil))) pa_nil))))
   pss_nil)
  (pss_one (ps_set (i := 2) sc_law_tiers.nd rfl (Or.inl rfl) (pe_op op_add (pe_op op_add (pv 2) pe_int) (pe_op op_mod (pv 4) (pe_ix ix_list (pe_lst (pa_cons pe_int (pa_cons pe_int (pa_cons pe_int pa_nil)))) (pe_op op_mod (pe_op op_fdiv (pv 4) pe_int) pe_int) (fun _ _ => rfl)))))))))
  (pss_one (ps_ret (pv 1)))))), ?_⟩
    refine ⟨Nat.zero_le _, fun F nF => ?_⟩
    have naF : F ≠ a := (ne_of_none ha nF).symm
    have ha0 : upd H F (.lst []) a = some (LI ns) := by rw [upd_ne naF.symm]; exact ha
    refine ⟨_, rfl, a, ns, rfl, ha0, fun H1 s1 ha1 => ?_⟩
    have s1' : SameBut a H H1 := (SameBut.of (same_upd nF)).trans s1
    have hF1 : H1 F = some (.lst []) := s1 _ _ naF upd_same
    obtain ⟨m, hm1, hm4, em⟩ := draw4 (ns.headD 0)
    refine ⟨_, _, rfl, rfl, (by show (0 : Int) < _; decide), _, _, rfl, rfl, _, rfl, by omega, by omega, for_range (n := (1 + ns.headD 0 % 4).toNat) (fun i σ H' => ∃ z y3 y4, σ = [some (.ref a), some (.ref F), some (.int z), y3, y4] ∧ SameBut a H H' ∧ (∃ ds, H' a = some (LI ds)) ∧ ∃ ts, TiersAt (cutH a H') F ts ∧ RiseT ts z i) ⟨1, none, none, rfl, s1', ⟨_, ha1⟩, [], ⟨[], cut_put naF hF1, rfl, fun i u t hu => by simp at hu⟩, ⟨Nat.le_refl _, fun _ => ⟨rfl, rfl⟩, fun t e => by simp at e, fun t ht => by simp at ht, fun i a b ha => by simp at ha, fun t ht => by simp at ht⟩⟩ (fun i σ H2 hi hp => ?_) (fun σ H2 hp => ?_)⟩
    · obtain ⟨z, y3, y4, rfl, s2, ⟨ds, ha2⟩, ts, hts, rs⟩ := hp
      refine ⟨_, rfl, a, ds, rfl, ha2, fun H3 s3 ha3 => ?_⟩
      have hts3 := hts.same (cut_same s3)
      generalize ds.headD 0 = n
      refine ⟨fun σ' H' => ∃ ts', σ' = [some (.ref a), some (.ref F), some (.int z), some (.int (0 + (i : Nat))), some (.int n)] ∧ SameBut a H H' ∧ (∃ ds, H' a = some (LI ds)) ∧ TiersAt (cutH a H') F ts' ∧ ∀ z', z < z' → RiseT ts' z' (i + 1), ?_, fun σ6 H6 hI => ?_⟩
      · refine ⟨_, rfl, _, _, rfl, rfl, _, rfl, ite2 (fun c => ?_) (fun c => ?_)⟩
        · have c' : z < 13 := of_decide_eq_true c
          have hF3 : ∃ xs, H3 F = some (.lst xs) := by
            obtain ⟨us, h1, _⟩ := id hts3
            exact ⟨_, (cut_some h1).2⟩
          obtain ⟨xs3, hF3⟩ := hF3
          refine ⟨_, rfl, .inl ⟨rfl, _, SqL.of hF3⟩, _, rfl, _, rfl, a, _, rfl, ha3, fun H4 ns4 p s4 ha4 p0 p1 => ⟨by show 2 ≤ sizeLine; decide, fun u nu => ?_⟩⟩
          have hts4 := hts3.same (cut_same s4)
          have nua : u ≠ a := (ne_of_none ha4 nu).symm
          have nuc : cutH a H4 u = none := by rw [cut_at nua]; exact nu
          obtain ⟨xs, hx, hxl, hpu⟩ := hts4.push (t := (z, p)) nuc
          have hF4 := (cut_some hx).2
          have few := rs.few
          refine ⟨F, _, _, rfl, rfl, (by rw [upd_ne (ne_of_none hF4 nu)]; exact hF4), szL' (by omega), ts ++ [(z, p)], rfl, ?_, ⟨ns4, ?_⟩, ?_, fun z' hz => rs.push c' hz p0 p1⟩
          · exact (((s2.trans s3).trans s4).trans (.of (same_upd nu))).new nF
          · rw [upd_ne naF.symm, upd_ne nua.symm]
            exact ha4
          · rw [cut_upd naF, cut_upd nua]
            exact hpu
        · exact ⟨ts, rfl, s2.trans s3, ⟨_, ha3⟩, hts3, fun z' hz => rs.pass (fun y => c (decide_eq_true y)) hz⟩
      · obtain ⟨ts', rfl, s6, ⟨ds6, ha6⟩, hts6, hr6⟩ := hI
        refine ⟨_, rfl, _, _, rfl, rfl, _, rfl, by show 3 ≤ sizeLine; decide, fun e ne => ?_⟩
        obtain ⟨j, hj, ej⟩ := mod_at (i := n / 8) (n := 3) (by decide)
        obtain ⟨v, hv, hv0⟩ := menu3 hj
        have nea : e ≠ a := (ne_of_none ha6 ne).symm
        refine ⟨_, rfl, _, _, rfl, rfl, ⟨by decide, by decide⟩, _, _, rfl, rfl, (by show (0 : Int) < _; decide), e, _, _, _, rfl, rfl, SqL.of upd_same, at_of ej hv, _, _, rfl, rfl, hv0, _, _, rfl, rfl, ?_⟩
        have := Int.emod_nonneg n (show v ≠ 0 by omega)
        exact ⟨_, _, _, rfl, s6.trans (.of (same_upd ne)), ⟨ds6, by rw [upd_ne nea.symm]; exact ha6⟩, ts', hts6.same (cut_same (.of (same_upd ne))), hr6 _ (by omega)⟩
    · obtain ⟨z, y3, y4, rfl, s2, ⟨ds, ha2⟩, ts, hts, rs⟩ := hp
      exact ⟨_, rfl, q H2 F ts ds s2 nF hts (rs.good (by omega) (by omega)) rs.pr ha2⟩
end
/-! ### lines as data -/
abbrev dInts (ns : List Int) : PyData := .list (ns.map PyData.int)
def dLine (l : Ln) : PyData := .tuple [.int l.p, .int l.c, dInts l.as]
abbrev dLines (ls : List Ln) : PyData := .list (ls.map dLine)
theorem LineAt.dp {K : PySem.W.Frag} {H : Hp} {a : Addr} {l : Ln} (h : LineAt H a l) : Dp K H (.ref a) (dLine l) := by
  obtain ⟨b, h1, h2⟩ := h
  exact .tup (SqT.of h1) (.cons (.int _) (.cons (.int _) (.cons (dp_ints (SqL.of h2)) .nil)))
theorem LineAt.same {H H' : Hp} (s : Same H H') {a : Addr} {l : Ln} (h : LineAt H a l) : LineAt H' a l := by
  obtain ⟨b, h1, h2⟩ := h
  exact ⟨b, s _ _ h1, s _ _ h2⟩
theorem LineAt.ke {H H' : Hp} (s : Ke H H') {a : Addr} {l : Ln} (h : LineAt H a l) : LineAt H' a l := by
  obtain ⟨b, h1, h2⟩ := h
  exact ⟨b, s.tup h1, s.lst h2⟩
theorem dp_lines {K : PySem.W.Frag} {H : Hp} : ∀ {as : List Addr} {ls : List Ln}, Al (LineAt H) as ls → DpAll K H (as.map V.ref) (ls.map dLine)
  | [], [], _ => .nil
  | [], _ :: _, h => h.elim
  | _ :: _, [], h => h.elim
  | _ :: _, _ :: _, h => .cons h.1.dp (dp_lines h.2)
theorem lay_line (l : Ln) : PyData.canLay0 (dLine l) = true := by
  have := lay_ints l.as
  simp [dLine, PyData.canLayAll0, PyData.canLay0, this]
theorem depth_line (l : Ln) : PyData.depth (dLine l) ≤ 2 := by
  have := depth_ints l.as
  simp only [dLine, PyData.depth, PyData.depthAll, this]
  decide
theorem lay_lines : ∀ ls : List Ln, PyData.canLayAll0 (ls.map dLine) = true
  | [] => by simp [PyData.canLayAll0]
  | l :: r => by
    have ih := lay_lines r
    have h1 := lay_line l
    simp [PyData.canLayAll0, ih, h1]
theorem depth_lines : ∀ ls : List Ln, PyData.depthAll (ls.map dLine) ≤ 2
  | [] => by simp [PyData.depthAll]
  | l :: r => by
    have ih := depth_lines r
    have h1 := depth_line l
    simp only [List.map_cons, PyData.depthAll]
    omega
theorem shaped_lines (ls : List Ln) : SeqAt.shaped (dLines ls) = true := by
  unfold SeqAt.shaped
  have h1 : PyData.canLay0 (dLines ls) = true := by
    simp only [PyData.canLay0]
    exact lay_lines ls
  have h2 : PyData.depth (dLines ls) ≤ 64 := by
    have := depth_lines ls
    simp only [PyData.depth]
    omega
  rw [h1, decide_eq_true h2]
  rfl
theorem shaped_line (l : Ln) : SeqAt.shaped (dLine l) = true := by
  unfold SeqAt.shaped
  have h2 : PyData.depth (dLine l) ≤ 64 := Nat.le_trans (depth_line l) (by decide)
  rw [lay_line l, decide_eq_true h2]
  rfl
theorem linesAtM_p {os : List Ofr} {i : Nat} {l : Ln} (h : l ∈ linesAtM os i) : l.p = (i : Int) := by
  unfold linesAtM at h
  split at h
  · obtain ⟨c, _, rfl⟩ := List.mem_map.mp h
    rfl
  · obtain ⟨c, _, rfl⟩ := List.mem_map.mp h
    rfl
  · cases h
theorem flat_one {α : Type} (X : List α) (p : Nat) : ∀ n : Nat, (List.range n).flatMap (fun i => if i = p then X else []) = if p < n then X else []
  | 0 => by simp
  | n + 1 => by
    rw [List.range_succ, List.flatMap_append, flat_one X p n, List.flatMap_singleton]
    by_cases h1 : p < n
    · rw [if_pos h1, if_neg (by omega), if_pos (by omega), List.append_nil]
    · rw [if_neg h1, List.nil_append]
      by_cases h2 : n = p
      · rw [if_pos h2, if_pos (by omega)]
      · rw [if_neg h2, if_neg (by omega)]
theorem lines_filter {os : List Ofr} {p : Nat} (h : p < os.length) : (linesM os).filter (fun l => decide (l.p = (p : Int))) = linesAtM os p := by
  unfold linesM
  rw [List.filter_flatMap]
  have e : ∀ i : Nat, (linesAtM os i).filter (fun l => decide (l.p = (p : Int))) = if i = p then linesAtM os p else [] := fun i => by
    by_cases z : i = p
    · rw [if_pos z, z, List.filter_eq_self]
      exact fun l hl => decide_eq_true (linesAtM_p hl)
    · rw [if_neg z, List.filter_eq_nil_iff]
      intro l hl
      have := linesAtM_p hl
      rw [decide_eq_true_eq]
      omega
  rw [show (fun i => (linesAtM os i).filter (fun l => decide (l.p = (p : Int)))) = fun i => if i = p then linesAtM os p else [] from funext e, flat_one, if_pos h]
/-! ### the tier of a count -/
def stepT (q : Int → Prop) [DecidablePred q] (ts : List (Int × Int)) (e : Int) : Int := ts.foldl (fun e t => if q t.1 then t.2 else e) e
theorem stepT_none {q : Int → Prop} [DecidablePred q] : ∀ {ts : List (Int × Int)} {e : Int}, (∀ t ∈ ts, ¬ q t.1) → stepT q ts e = e
  | [], _, _ => rfl
  | t :: r, e, h => by
    show stepT q r (if q t.1 then t.2 else e) = e
    rw [if_neg (h t List.mem_cons_self)]
    exact stepT_none fun t ht => h t (List.mem_cons_of_mem _ ht)
theorem stepT_split (c : Int) : ∀ (ts : List (Int × Int)) (e : Int), ts.Pairwise (fun a b => a.1 < b.1) → stepT (· = c) ts (stepT (· ≤ c - 1) ts e) = stepT (· ≤ c) ts e
  | [], _, _ => rfl
  | t :: r, e, h => by
    obtain ⟨h1, h2⟩ := List.pairwise_cons.mp h
    show stepT (· = c) r (if t.1 = c then t.2 else stepT (· ≤ c - 1) r (if t.1 ≤ c - 1 then t.2 else e)) = stepT (· ≤ c) r (if t.1 ≤ c then t.2 else e)
    by_cases z1 : t.1 ≤ c - 1
    · rw [if_pos z1, if_neg (by omega), if_pos (by omega)]
      exact stepT_split c r t.2 h2
    · rw [if_neg z1]
      by_cases z2 : t.1 = c
      · rw [if_pos z2, if_pos (by omega), stepT_none (q := (· = c)) fun x hx => by have := h1 x hx; omega, stepT_none (q := (· ≤ c)) fun x hx => by have := h1 x hx; omega]
      · rw [if_neg z2, if_neg (by omega)]
        exact stepT_split c r e h2
theorem pieceM_step (c : Int) : ∀ (ts : List (Int × Int)) (e : Int), (pieceL ts c).getLastD e = stepT (· ≤ c) ts e
  | [], _ => rfl
  | t :: r, e => by
    show _ = stepT (· ≤ c) r (if t.1 ≤ c then t.2 else e)
    rw [← pieceM_step c r]
    unfold pieceL
    by_cases z : t.1 ≤ c
    · rw [if_pos z, List.filter_cons_of_pos (p := fun t : Int × Int => decide (t.1 ≤ c)) (decide_eq_true z), List.map_cons, List.getLastD_cons]
    · rw [if_neg z, List.filter_cons_of_neg (by rw [decide_eq_true_eq]; exact z)]
theorem GoodT.pair {ts : List (Int × Int)} (h : GoodT ts) : ts.Pairwise (fun a b => a.1 < b.1) := by
  have step : ∀ (n i : Nat) (a b : Int × Int), ts[i]? = some a → ts[i + (n + 1)]? = some b → a.1 < b.1 := by
    intro n
    induction n with
    | zero => exact fun i a b ha hb => h.rise i a b ha hb
    | succ n ih =>
      intro i a b ha hb
      have hl := (List.getElem?_eq_some_iff.mp hb).1
      have g := List.getElem?_eq_getElem (show i + (n + 1) < ts.length by omega)
      have h1 := ih i a _ ha g
      have h2 := h.rise (i + (n + 1)) _ b g hb
      omega
  rw [List.pairwise_iff_getElem]
  intro i j hi hj hij
  have := step (j - i - 1) i ts[i] ts[j] (List.getElem?_eq_getElem hi) (by rw [show i + (j - i - 1 + 1) = j by omega]; exact List.getElem?_eq_getElem hj)
  exact this
theorem GoodT.ge1 {ts : List (Int × Int)} (h : GoodT ts) : ∀ t ∈ ts, 1 ≤ t.1 := fun t ht => by
  obtain ⟨i, hi, rfl⟩ := List.getElem_of_mem ht
  have e0 := h.one _ (List.getElem?_eq_getElem (show 0 < ts.length by omega))
  rcases Nat.eq_zero_or_pos i with z | z
  · subst z
    omega
  · have := List.pairwise_iff_getElem.mp h.pair 0 i (by omega) hi z
    omega
theorem pieceM_zero {ts : List (Int × Int)} (h : GoodT ts) : pieceM ts 0 = 0 := by
  unfold pieceM
  rw [pieceM_step]
  exact stepT_none fun t ht => by have := h.ge1 t ht; omega
theorem pieceM_succ {ts : List (Int × Int)} (h : GoodT ts) (c : Int) : stepT (· = c) ts (pieceM ts (c - 1)) = pieceM ts c := by
  unfold pieceM
  rw [pieceM_step, pieceM_step]
  exact stepT_split c ts 0 h.pair
theorem stepT_take {q : Int → Prop} [DecidablePred q] {ts : List (Int × Int)} {i : Nat} {t : Int × Int} {e : Int} (h : ts[i]? = some t) : stepT q (ts.take (i + 1)) e = if q t.1 then t.2 else stepT q (ts.take i) e := by
  unfold stepT
  rw [take_succ_at h, List.foldl_append]
  rfl
/-! ### shops made of offers -/
theorem ShopAt.of_al {H : Hp} {a : Addr} {vs : List Addr} {os : List Ofr} (h : H a = some (.lst (vs.map V.ref))) (al : Al (OfrAt H) vs os) : ShopAt H a os := by
  refine ⟨vs, h, al.len, fun i v o hv ho => ?_⟩
  obtain ⟨x, hx, r⟩ := al.get hv
  rw [ho] at hx
  cases Option.some.inj hx
  exact r
theorem TiersAt.of_al {H : Hp} {a : Addr} {us : List Addr} {ts : List (Int × Int)} (h : H a = some (.lst (us.map V.ref))) (al : Al (fun u (t : Int × Int) => H u = some (.tup [.int t.1, .int t.2])) us ts) : TiersAt H a ts := by
  refine ⟨us, h, al.len, fun i v o hv ho => ?_⟩
  obtain ⟨x, hx, r⟩ := al.get hv
  rw [ho] at hx
  cases Option.some.inj hx
  exact r
theorem ShopAt.al {H : Hp} {a : Addr} {os : List Ofr} (h : ShopAt H a os) : ∃ vs : List Addr, H a = some (.lst (vs.map V.ref)) ∧ Al (OfrAt H) vs os := by
  obtain ⟨vs, h1, h2, h3⟩ := h
  refine ⟨vs, h1, ?_⟩
  clear h1
  induction vs generalizing os with
  | nil =>
    cases os with
    | nil => exact True.intro
    | cons o r => simp at h2
  | cons v vr ih =>
    cases os with
    | nil => simp at h2
    | cons o r => exact ⟨h3 0 v o rfl rfl, ih (by simpa using h2) fun i v o hv ho => h3 (i + 1) v o hv ho⟩
theorem goodT_one (p : Int) : GoodT [(1, p)] := by
  refine ⟨by show 1 ≤ 1; decide, by show 1 ≤ 4; decide, fun t e => ?_, fun t ht => ?_, fun i a b ha hb => by simp at hb⟩
  · cases Option.some.inj e
    rfl
  · rw [List.mem_singleton.mp ht]
    show (1 : Int) ≤ 12
    decide
/-! ### _law_shop -/
abbrev s_law_shop : Stmt := topS 80
abbrev N_law_shop : List Str := ["_law_draws_here", "_law_many", "_law_most", "_law_shop_here", "_law_k", "_law_number", "_law_packs", "_law_content_here", "_law_place"]
theorem sc_law_shop : FnScope N_law_shop ["_law_draws_here", "_law_many", "_law_most"] (defScope s_law_shop) := ⟨rfl, rfl, rfl, by decide +kernel, rfl, by decide +kernel, by decide +kernel⟩

def isPack (os : List Ofr) (i : Nat) : Bool := match os[i]? with
  | some (.pack _ _) => true
  | _ => false
def packsN (os : List Ofr) (n : Nat) : List Int := ((List.range n).filter (isPack os)).map fun (i : Nat) => (i : Int)
theorem packsN_len (os : List Ofr) (n : Nat) : (packsN os n).length ≤ n := by
  unfold packsN
  rw [List.length_map]
  exact Nat.le_trans (List.length_filter_le _ _) (by rw [List.length_range]; exact Nat.le_refl _)
theorem packsN_yes {os : List Ofr} {n : Nat} (h : isPack os n = true) : packsN os (n + 1) = packsN os n ++ [(n : Int)] := by
  unfold packsN
  rw [List.range_succ, List.filter_append, List.map_append]
  simp [h]
theorem packsN_no {os : List Ofr} {n : Nat} (h : isPack os n = false) : packsN os (n + 1) = packsN os n := by
  unfold packsN
  rw [List.range_succ, List.filter_append, List.map_append]
  simp [h]
theorem packsN_mem {os : List Ofr} {n : Nat} {x : Int} (h : x ∈ packsN os n) : ∃ j : Nat, x = (j : Int) ∧ j < n ∧ ∃ c p, os[j]? = some (.pack c p) := by
  obtain ⟨j, hj, rfl⟩ := List.mem_map.mp h
  obtain ⟨h1, h2⟩ := List.mem_filter.mp hj
  refine ⟨j, rfl, List.mem_range.mp h1, ?_⟩
  unfold isPack at h2
  split at h2
  · exact ⟨_, _, by assumption⟩
  · cases h2
def sp_shop : Sp := fun vs H Q _ => ∃ (a : Addr) (ns : List Int) (m most : Nat), vs = [.ref a, .int m, .int most] ∧ H a = some (LI ns) ∧ 1 ≤ m ∧ m ≤ 4 ∧ most ≤ 8 ∧
  ∀ H' p os ns', SameBut a H H' → H p = none → ShopAt (cutH a H') p os → Good os → FitS m os → os.length ≤ most → H' a = some (LI ns') → Q (.ref p) H'
section
variable {P : Program} {w : World} {K : PySem.W.Frag} {mg : Str → Option Value} {base : Heap}
theorem ok_shop {f f1 f2 f3 f4 f5 f6 : Addr} {fd fd1 fd2 fd3 fd4 fd5 fd6 : FuncData} {k : Nat} (M : Names mg) (D : Def K mg "_law_shop" s_law_shop ["_law_draws_here", "_law_many", "_law_most"] f fd) (D_law_content : Def K mg "_law_content" s_law_content ["_law_draws_here", "_law_many"] f1 fd1) (D_law_price : Def K mg "_law_price" s_law_price ["_law_draws_here"] f2 fd2) (D_law_tiers : Def K mg "_law_tiers" s_law_tiers ["_law_draws_here"] f3 fd3)
    (D_law_want : Def K mg "_law_want" s_law_want ["_law_draws_here", "_law_many"] f4 fd4) (D_law_pop : Def K mg "_law_pop" s_law_pop ["_law_draws_here"] f5 fd5) (D_law_cases : Def K mg "_law_cases" s_law_cases ["_law_want_here"] f6 fd6) :
    FnOk P w K mg base CX0 (k + 4) f fd ["_law_draws_here", "_law_many", "_law_most"] sp_shop := by
  have G_law_content : FnOk P w K mg base CX0 (k + 3) f1 fd1 ["_law_draws_here", "_law_many"] sp_content := ok_content M D_law_content D_law_want D_law_pop D_law_cases
  have G_law_price : FnOk P w K mg base CX0 (k + 3) f2 fd2 ["_law_draws_here"] sp_price := ok_price D_law_price D_law_pop
  have G_law_tiers : FnOk P w K mg base CX0 (k + 3) f3 fd3 ["_law_draws_here"] sp_tiers := ok_tiers M D_law_tiers D_law_price D_law_pop
  have G_law_pop : FnOk P w K mg base CX0 (k + 3) f5 fd5 ["_law_draws_here"] sp_pop := ok_pop D_law_pop
  refine D.F.ok sc_law_shop (fun vs H Q E h => ?_) (fun cdv A outer s H vs Q E hr h => ?_)
  · obtain ⟨a, ns, m, most, rfl, _⟩ := h
    rfl
  · obtain ⟨a, ns, m, most, rfl, ha, hm1, hm4, hmost, q⟩ := h
    refine ⟨_, (pss_cons (ps_set (i := 3) sc_law_shop.nd rfl (Or.inr rfl) (pe_lst pa_nil))
  (pss_cons (ps_for PassesOwn.never rfl (pi_range1 (by rfl) M.range (pa_cons (pe_op op_mod (pe_call G_law_pop hr (by rfl) D_law_pop.g D_law_pop.F.kp D_law_pop.b .nil pass0 (pa_cons (pv 0) pa_nil)) (pe_op op_add (pv 2) pe_int)) pa_nil)) (pg_name (i := 4) sc_law_shop.nd rfl (Or.inl rfl))
   (pss_cons (ps_set (i := 5) sc_law_shop.nd rfl (Or.inl rfl) (pe_call G_law_pop hr (by rfl) D_law_pop.g D_law_pop.F.kp D_law_pop.b .nil pass0 (pa_cons (pv 0) pa_nil)))
  (pss_cons (ps_setLc (i := 6) (own := [("_law_place", 8)]) (by rfl) sc_law_shop.nd rfl rfl (sw_true rfl rfl rfl (by decide +kernel)) (pi_range1 (by rfl) M.range (pa_cons (pe_callB call_len_seq (by rfl) M.len (by decide +kernel) (pa_cons (pv 3) pa_nil)) pa_nil)) (blkOk_by (own := [("_law_place", 8)]) (N := N_law_shop) (sc := defScope s_law_shop) (by decide +kernel)) (fun _ _ _ _ _ => (pg_name (i := 8) sc_law_shop.nd rfl (Or.inl rfl))) (fun _ _ _ _ _ => (pts_one (pt_cmpR op_eq (pe_ix (ix_tupK (K := K) rfl) (pe_ix (ix_listK (K := K) rfl) (pv 3) (pv 8) (fun _ _ => rfl)) pe_int (fun _ _ => rfl)) pe_str (nomark _)))) (fun _ _ _ _ _ => (pv 8)))
  (pss_cons (ps_set (i := 7) sc_law_shop.nd rfl (Or.inl rfl) (pe_call G_law_content hr (by rfl) D_law_content.g D_law_content.F.kp D_law_content.b .nil pass0 (pa_cons (pv 0) (pa_cons (pv 1) pa_nil))))
  (pss_one (ps_if (PW.pt (pw_and (pt_cmpR op_gt (pe_op op_mod (pv 5) pe_int) pe_int (nomark _)) (pw_and1 (pt_cmpR (op_neD hr.units) (pv 6) (pe_lst pa_nil) (nomark _)))))
   (pss_one (ps_expr (pe_bm PySem.F.plainAttrs_list PySem.F.slot_list_append PySem.F.type_list_append mt_append (pv 3) (pa_cons (pe_tup (pa_cons pe_str (pa_cons (pv 7) (pa_cons (pe_call G_law_price hr (by rfl) D_law_price.g D_law_price.F.kp D_law_price.b .nil pass0 (pa_cons (pv 0) pa_nil)) (pa_cons (pe_ix ix_list (pv 6) (pe_op op_mod (pe_op op_fdiv (pv 5) pe_int) (pe_callB call_len_seq (by rfl) M.len (by decide +kernel) (pa_cons (pv 6) pa_nil))) (fun _ _ => rfl)) pa_nil))))) pa_nil))))
   (pss_one (ps_if (pt_cmpR op_gt (pe_op op_mod (pv 5) pe_int) pe_int (nomark _))
   (pss_one (ps_expr (pe_bm PySem.F.plainAttrs_list PySem.F.slot_list_append PySem.F.type_list_append mt_append (pv 3) (pa_cons (pe_tup (pa_cons pe_str (pa_cons (pv 7) (pa_cons (pe_call G_law_tiers hr (by rfl) D_law_tiers.g D_law_tiers.F.kp D_law_tiers.b .nil pass0 (pa_cons (pv 0) pa_nil)) pa_nil)))) pa_nil))))
   (pss_one (ps_expr (pe_bm PySem.F.plainAttrs_list PySem.F.slot_list_append PySem.F.type_list_append mt_append (pv 3) (pa_cons (pe_tup (pa_cons pe_str (pa_cons (pv 7) (pa_cons (pe_call G_law_price hr (by rfl) D_law_price.g D_law_price.F.kp D_law_price.b .nil pass0 (pa_cons (pv 0) pa_nil)) pa_nil)))) pa_nil))))))))))))
  (pss_one (ps_ret (pv 3))))), ?_⟩
    refine ⟨Nat.zero_le _, fun S nS => ?_⟩
    have nSa : S ≠ a := (ne_of_none ha nS).symm
    have ha0 : upd H S (.lst []) a = some (LI ns) := by rw [upd_ne nSa.symm]; exact ha
    refine ⟨_, rfl, a, ns, rfl, ha0, fun H1 s1 ha1 => ?_⟩
    have s1' : SameBut a H H1 := (SameBut.of (same_upd nS)).trans s1
    have hS1 : H1 S = some (.lst []) := s1 _ _ nSa upd_same
    obtain ⟨cnt, hcnt, ecnt⟩ := mod_at (i := ns.headD 0) (n := most + 1) (by omega)
    refine ⟨_, rfl, _, _, rfl, rfl, _, _, rfl, rfl, (by show (0 : Int) < (most : Int) + 1; omega), ?_⟩
    refine ⟨(cnt : Int), (by show [V.int (ns.headD 0 % ((most : Int) + 1))] = [V.int (cnt : Int)]; rw [show ns.headD 0 % ((most : Int) + 1) = (cnt : Int) from ecnt]), by omega, by omega, for_range (n := (cnt : Int).toNat) (fun i σ H' => ∃ y4 y5 y6 y7, σ = [some (.ref a), some (.int m), some (.int most), some (.ref S), y4, y5, y6, y7, none] ∧ SameBut a H H' ∧ (∃ ds, H' a = some (LI ds)) ∧ ∃ (vs : List Addr) (os : List Ofr), H' S = some (.lst (vs.map V.ref)) ∧ Al (OfrAt (cutH S (cutH a H'))) vs os ∧ Good os ∧ FitS m os ∧ os.length ≤ i) ⟨none, none, none, none, rfl, s1', ⟨_, ha1⟩, [], [], hS1, True.intro, ⟨by decide, fun i o ho => by simp at ho⟩, fun o ho => by simp at ho, Nat.le_refl _⟩ (fun i σ H2 hi hp => ?_) (fun σ H2 hp => ?_)⟩
    · obtain ⟨y4, y5, y6, y7, rfl, s2, ⟨ds, ha2⟩, vs, os, hS2, al, gd, ft, hlen⟩ := hp
      have hi2 : i < cnt := by omega
      have lal := al.len
      refine ⟨_, rfl, a, ds, rfl, ha2, fun H3 s3 ha3 => ?_⟩
      generalize ds.headD 0 = n
      have s23 := s2.trans s3
      have hS3 := s3 _ _ nSa hS2
      have al3 : Al (OfrAt (cutH S (cutH a H3))) vs os := al.imp fun v o h => h.same (cut_mono (cut_same s3))
      have sh3 : ShopAt H3 S os := ShopAt.of_al hS3 (al3.imp fun v o h => (h.same cut_le).same cut_le)
      obtain ⟨vs3, k1, k2, k3⟩ := id sh3
      -- packs
      refine ⟨_, rfl, S, _, rfl, .inl (SqL.of k1), _, rfl, by rw [List.length_map]; omega, by rw [List.length_map]; omega, fun B nB => lc_range (lo := 0) (n := ((vs3.map V.ref).length : Int).toNat) (fun j H' => Same H3 H' ∧ H' B = some (LI (packsN os j))) ⟨same_upd nB, upd_same⟩ (fun j H4 hj hI => ?_) (fun H4 hI => ?_)⟩
      · obtain ⟨s4, hB⟩ := hI
        have hj2 : j < os.length := by rw [Int.toNat_natCast, List.length_map] at hj; omega
        obtain ⟨v, o, g1, g2, g3⟩ := ShopAt.get (H := H3) (a := S) k2 hj2
        obtain ⟨b, r, hv, _⟩ := (k3 j v o g1 g2).head
        have nlen := packsN_len os j
        refine ⟨rfl, _, rfl, _, rfl, S, _, _, _, rfl, rfl, SqL.of (s4 _ _ k1), at_of (Int.zero_add _) g3, v, _, _, _, rfl, rfl, SqT.of (s4 _ _ hv), atI_nat (j := 0) rfl, rfl, ?_⟩
        cases o with
        | pack c pr =>
          have hn : isPack os j = true := by unfold isPack; rw [g2]
          refine ⟨true, rfl, _, rfl, _, hB, szL' (by rw [List.length_map]; omega), sm_new s4 nB, ?_⟩
          rw [packsN_yes hn, show (0 : Int) + (j : Nat) = (j : Int) from Int.zero_add _]
          exact at_app
        | many c ts =>
          have hn : isPack os j = false := by unfold isPack; rw [g2]
          exact ⟨false, rfl, s4, by rw [packsN_no hn]; exact hB⟩
        | add c pr kk =>
          have hn : isPack os j = false := by unfold isPack; rw [g2]
          exact ⟨false, rfl, s4, by rw [packsN_no hn]; exact hB⟩
      · obtain ⟨s4, hB⟩ := hI
        rw [Int.toNat_natCast, List.length_map, k2] at hB
        have ha4 := s4 _ _ ha3
        have hS4 := s4 _ _ hS3
        have nBa : B ≠ a := (ne_of_none ha3 nB).symm
        have s24 : SameBut a H H4 := s23.trans (.of s4)
        have al4 : Al (OfrAt (cutH S (cutH a H4))) vs os := al3.imp fun v o h => h.same (cut_mono (cut_mono s4))
        -- content
        refine ⟨_, rfl, _, rfl, a, _, m, rfl, ha4, hm1, hm4, fun H5 c ws ns5 s5 nc nca hc ha5 hl sm => ?_⟩
        have s25 := s24.trans s5
        have hS5 := s5 _ _ nSa hS4
        have hB5 := s5 _ _ nBa hB
        have ncS : c ≠ S := fun z => by rw [z, hS4] at nc; cases nc
        have al5 : Al (OfrAt (cutH S (cutH a H5))) vs os := al4.imp fun v o h => h.same (cut_mono (cut_same s5))
        have fin : ∀ (H6 : Hp) (v : Addr) (o : Ofr) (tup : List V) (ns6 : List Int), SameBut a H5 H6 → H6 v = none → H6 a = some (LI ns6) → (OfrAt (cutH S (cutH a (upd H6 v (.tup tup)))) v o) → GoodO os os.length o → FitO m o → upd H6 v (.tup tup) S = some (.lst (vs.map V.ref)) ∧ (vs.map V.ref).length < sizeLine ∧ (∃ y4 y5 y6 y7, [some (V.ref a), some (.int m), some (.int most), some (.ref S), some (.int (0 + (i : Nat))), some (.int n), some (.ref B), some (.ref c), none] = [some (.ref a), some (.int m), some (.int most), some (.ref S), y4, y5, y6, y7, none] ∧ SameBut a H (upd (upd H6 v (.tup tup)) S (.lst (vs.map V.ref ++ [.ref v]))) ∧ (∃ ds, upd (upd H6 v (.tup tup)) S (.lst (vs.map V.ref ++ [.ref v])) a = some (LI ds)) ∧ ∃ (vs' : List Addr) (os' : List Ofr), upd (upd H6 v (.tup tup)) S (.lst (vs.map V.ref ++ [.ref v])) S = some (.lst (vs'.map V.ref)) ∧ Al (OfrAt (cutH S (cutH a (upd (upd H6 v (.tup tup)) S (.lst (vs.map V.ref ++ [.ref v])))))) vs' os' ∧ Good os' ∧ FitS m os' ∧ os'.length ≤ i + 1) := by
          intro H6 v o tup ns6 s6 nv ha6 ho go fo
          have nva : v ≠ a := (ne_of_none ha6 nv).symm
          have hS6 := s6 _ _ nSa hS5
          have hS7 := (same_upd (o := .tup tup) nv) _ _ hS6
          refine ⟨hS7, szL' (by rw [List.length_map]; omega), _, _, _, _, rfl, ?_, ⟨ns6, ?_⟩, vs ++ [v], os ++ [o], ?_, ?_, gd.push (by omega) go, ft.push fo, by rw [List.length_append, List.length_singleton]; omega⟩
          · exact ((s25.trans s6).trans (.of (same_upd nv))).new nS
          · rw [upd_ne nSa.symm, upd_ne nva.symm]
            exact ha6
          · rw [upd_same, List.map_append]
            rfl
          · rw [cut_upd nSa, cut_off]
            refine Al.app (al5.imp fun x y h => h.same (cut_mono (cut_same (s6.trans (.of (same_upd nv)))))) (.one ho)
        have finM := fun (H6 H7 : Hp) (v tt : Addr) (ts : List (Int × Int)) (ns7 : List Int) (s6 : SameBut a H5 H6) (s7 : SameBut a H6 H7) (nt : H6 tt = none) (hts : TiersAt (cutH a H7) tt ts) (gts : GoodT ts) (prt : PriceT ts) (ha7 : H7 a = some (LI ns7)) (nv : H7 v = none) => by
          have hS6 := s6 _ _ nSa hS5
          have hS7 := s7 _ _ nSa hS6
          have nva : v ≠ a := (ne_of_none ha7 nv).symm
          have nvS : v ≠ S := (ne_of_none hS7 nv).symm
          have ntS : tt ≠ S := fun z => by rw [z, hS6] at nt; cases nt
          have hc7 := s7 _ _ nca (s6 _ _ nca hc)
          have hts' : TiersAt (cutH S (cutH a (upd H7 v (.tup [.str "many", .ref c, .ref tt])))) tt ts := (hts.cut ntS (cut_put nSa hS7)).same (cut_mono (cut_mono (same_upd nv)))
          exact fin H7 v (.many ws ts) [.str "many", .ref c, .ref tt] ns7 (s6.trans s7) nv ha7 ⟨c, tt, cut_put nvS (cut_put nva upd_same), cut_put ncS (cut_put nca ((same_upd nv) _ _ hc7)), hts'⟩ gts ⟨hl, sm, prt⟩
        have finP := fun (H6 H7 : Hp) (v : Addr) (ns7 : List Int) (p : Int) (s6 : SameBut a H5 H6) (s7 : SameBut a H6 H7) (ha7 : H7 a = some (LI ns7)) (p0 : 0 ≤ p) (p1 : p < 1000000000000) (nv : H7 v = none) => by
          have hS7 := s7 _ _ nSa (s6 _ _ nSa hS5)
          have nva : v ≠ a := (ne_of_none ha7 nv).symm
          have nvS : v ≠ S := (ne_of_none hS7 nv).symm
          have hc7 := s7 _ _ nca (s6 _ _ nca hc)
          exact fin H7 v (.pack ws p) [.str "pack", .ref c, .int p] ns7 (s6.trans s7) nv ha7 ⟨c, cut_put nvS (cut_put nva upd_same), cut_put ncS (cut_put nca ((same_upd nv) _ _ hc7))⟩ True.intro ⟨hl, sm, p0, p1⟩
        refine ⟨_, rfl, _, _, rfl, rfl, (by show (0 : Int) < _; decide), _, _, rfl, rfl, _, rfl, ite2 (fun _ => ?_) (fun _ => ?_)⟩
        · refine ⟨_, rfl, Nat.zero_le _, fun e ne => ?_⟩
          have se := same_upd (o := .lst []) ne
          have hB6 := se _ _ hB5
          have ha6 := se _ _ ha5
          have hS6 := se _ _ hS5
          have he : upd H5 e (.lst []) e = some (.lst []) := upd_same
          generalize upd H5 e (.lst []) = H6 at se hB6 ha6 hS6 he ⊢
          refine ⟨_, _, dp_ints (SqL.of hB6), dp_ints (ns := []) (SqL.of he), shaped_ints _, shaped_ints _, _, rfl, ite2 (fun z => ?_) (fun z => ?_)⟩
          · have pne : 0 < (packsN os os.length).length := by
              rcases Nat.eq_zero_or_pos (packsN os os.length).length with y | y
              · rw [eqv_ints, List.eq_nil_of_length_eq_zero y, decide_eq_true rfl] at z
                cases z
              · exact y
            obtain ⟨j, hj, ej⟩ := mod_at (i := n / 8) (n := ((packsN os os.length).map V.int).length) (by rw [List.length_map]; exact pne)
            rw [List.length_map] at hj
            refine ⟨_, rfl, .inl ⟨rfl, _, SqL.of hS6⟩, _, rfl, _, rfl, a, _, rfl, ha6, fun H7 ns7 p s7 ha7 p0 p1 => ?_⟩
            have hB7 := s7 _ _ nBa hB6
            refine ⟨_, rfl, _, rfl, _, _, rfl, rfl, ⟨by decide, by decide⟩, _, rfl, B, _, rfl, .inl (SqL.of hB7), _, _, rfl, rfl, (by rw [List.length_map]; omega), B, _, _, _, rfl, rfl, SqL.of hB7, at_of ej (getD_ints hj), by show 4 ≤ sizeLine; decide, fun v nv => ?_⟩
            obtain ⟨jj, ejj, hjj, cc, pp, hpk⟩ := packsN_mem (List.getElem_mem hj)
            have nva : v ≠ a := (ne_of_none ha7 nv).symm
            have hS7 := s7 _ _ nSa hS6
            have nvS : v ≠ S := (ne_of_none hS7 nv).symm
            have hc7 := s7 _ _ nca (se _ _ hc)
            exact ⟨S, _, _, rfl, rfl, fin H7 v (.add ws p ((packsN os os.length)[j])) _ ns7 ((SameBut.of se).trans s7) nv ha7 ⟨c, cut_put nvS (cut_put nva upd_same), cut_put ncS (cut_put nca ((same_upd nv) _ _ hc7))⟩ ⟨jj, ejj, hjj, cc, pp, hpk⟩ ⟨hl, sm, p0, p1⟩⟩
          · refine ⟨_, rfl, _, _, rfl, rfl, (by show (0 : Int) < _; decide), _, _, rfl, rfl, _, rfl, ite2 (fun _ => ?_) (fun _ => ?_)⟩
            · refine ⟨_, rfl, .inl ⟨rfl, _, SqL.of hS6⟩, _, rfl, _, rfl, a, _, rfl, ha6, fun H7 tt ts ns7 s7 nt hts gts prt ha7 => ⟨by show 3 ≤ sizeLine; decide, fun v nv => ?_⟩⟩
              exact ⟨S, _, _, rfl, rfl, finM H6 H7 v tt ts ns7 (.of se) s7 nt hts gts prt ha7 nv⟩
            · refine ⟨_, rfl, .inl ⟨rfl, _, SqL.of hS6⟩, _, rfl, _, rfl, a, _, rfl, ha6, fun H7 ns7 p s7 ha7 p0 p1 => ⟨by show 3 ≤ sizeLine; decide, fun v nv => ?_⟩⟩
              exact ⟨S, _, _, rfl, rfl, finP H6 H7 v ns7 p (.of se) s7 ha7 p0 p1 nv⟩
        · refine ⟨_, rfl, _, _, rfl, rfl, (by show (0 : Int) < _; decide), _, _, rfl, rfl, _, rfl, ite2 (fun _ => ?_) (fun _ => ?_)⟩
          · refine ⟨_, rfl, .inl ⟨rfl, _, SqL.of hS5⟩, _, rfl, _, rfl, a, _, rfl, ha5, fun H7 tt ts ns7 s7 nt hts gts prt ha7 => ⟨by show 3 ≤ sizeLine; decide, fun v nv => ?_⟩⟩
            exact ⟨S, _, _, rfl, rfl, finM H5 H7 v tt ts ns7 (.refl _ _) s7 nt hts gts prt ha7 nv⟩
          · refine ⟨_, rfl, .inl ⟨rfl, _, SqL.of hS5⟩, _, rfl, _, rfl, a, _, rfl, ha5, fun H7 ns7 p s7 ha7 p0 p1 => ⟨by show 3 ≤ sizeLine; decide, fun v nv => ?_⟩⟩
            exact ⟨S, _, _, rfl, rfl, finP H5 H7 v ns7 p (.refl _ _) s7 ha7 p0 p1 nv⟩
    · obtain ⟨y4, y5, y6, y7, rfl, s2, ⟨ds, ha2⟩, vs, os, hS2, al, gd, ft, hlen⟩ := hp
      refine ⟨_, rfl, q H2 S os ds s2 nS (ShopAt.of_al (cut_put nSa hS2) (al.imp fun v o h => h.same cut_le)) gd ft (by omega) ha2⟩
end
-- used defs only
/-! ### the law -/
abbrev s_law : Stmt := topS 85
abbrev N_law : List Str := ["_law_script", "_law_draws_here", "_law_many", "_law_shop_here", "_law_want_here", "_law_at", "_law_content_here", "_law_number", "_law_odd", "_law_bad", "_law_spoilt", "_law_way", "_law_k"]
theorem sc_law : FnScope N_law ["_law_script"] (defScope s_law) := ⟨rfl, rfl, rfl, by decide +kernel, rfl, by decide +kernel, by decide +kernel⟩

theorem cut_toR (l : List V) (k : Nat) : cutV l none (some (k : Int)) = l.take k := by
  unfold cutV
  rw [HT.sIx_nat, HT.sIx_none, List.drop_zero, Nat.sub_zero]
  exact (List.take_eq_take_iff).mpr (by omega)
theorem refs_ints {c : List Int} {v : Addr} {vs : List Addr} (h : HO.lst (c.map V.int) = HO.lst ((v :: vs).map V.ref)) : False := by
  injection h with h
  cases c with
  | nil => cases h
  | cons n r =>
    rw [List.map_cons, List.map_cons] at h
    injection h with h1 _
    cases h1
theorem ofr_other {H : Hp} {q v0 : Addr} {vs : List Addr} {zs : List V} {w : Str} {r : List V} (hq : H q = some (.lst ((v0 :: vs).map V.ref))) (h0 : H v0 = some (.tup (.str w :: r))) {v : Addr} : ∀ {o : Ofr}, OfrAt H v o → OfrAt (upd H q (.lst zs)) v o
  | .pack c p, ⟨b, h1, h2⟩ => ⟨b, by rw [upd_ne (ne_of h1 hq (fun z => nomatch z))]; exact h1, by rw [upd_ne (fun e => by rw [e, hq] at h2; exact refs_ints (Option.some.inj h2).symm)]; exact h2⟩
  | .add c p k, ⟨b, h1, h2⟩ => ⟨b, by rw [upd_ne (ne_of h1 hq (fun z => nomatch z))]; exact h1, by rw [upd_ne (fun e => by rw [e, hq] at h2; exact refs_ints (Option.some.inj h2).symm)]; exact h2⟩
  | .many c ts, ⟨b, t, h1, h2, us, h3, h4, h5⟩ => by
    have nt : t ≠ q := fun e => by
      rw [e, hq] at h3
      have h3' := Option.some.inj h3
      injection h3' with h6
      cases us with
      | nil => cases h6
      | cons u us =>
        rw [List.map_cons, List.map_cons] at h6
        injection h6 with h7 _
        have h8 : v0 = u := V.ref.inj h7
        have ht : ts[0]? = some (ts[0]'(by rw [← h4]; exact Nat.succ_pos _)) := List.getElem?_eq_getElem _
        have h9 := h5 0 u _ rfl ht
        rw [← h8, h0] at h9
        have h10 := Option.some.inj h9
        injection h10 with h11
        injection h11 with h12 _
        cases h12
    refine ⟨b, t, by rw [upd_ne (ne_of h1 hq (fun z => nomatch z))]; exact h1, by rw [upd_ne (fun e => by rw [e, hq] at h2; exact refs_ints (Option.some.inj h2).symm)]; exact h2, us, by rw [upd_ne nt]; exact h3, h4, fun i u tt a b => ?_⟩
    have h6 := h5 i u tt a b
    rw [upd_ne (ne_of h6 hq (fun z => nomatch z))]
    exact h6
theorem good_tiers_true {ts : List (Int × Int)} (g : GoodT ts) : goodB ts = true := by
  have pos := g.pos
  have few := g.few
  have lb : (begs ts).length = ts.length := List.length_map ..
  have gb : ∀ (i : Nat) t, ts[i]? = some t → (begs ts).getD i 0 = t.1 := fun i t h => by
    unfold begs
    rw [List.getD_eq_getElem?_getD, List.getElem?_map, h]
    rfl
  have at_ : ∀ i, i < ts.length → ∃ t, ts[i]? = some t ∧ (begs ts).getD i 0 = t.1 := fun i hi => ⟨_, List.getElem?_eq_getElem hi, gb i _ (List.getElem?_eq_getElem hi)⟩
  obtain ⟨t0, h0, e0⟩ := at_ 0 (by omega)
  obtain ⟨t1, h1, e1⟩ := at_ (ts.length - 1) (by omega)
  have one := g.one t0 h0
  have most := g.most t1 (List.mem_of_getElem? h1)
  unfold goodB
  rw [decide_eq_true pos, decide_eq_true few, e0, decide_eq_true one, e1, decide_eq_true most, Bool.true_and, Bool.true_and, Bool.true_and, Bool.true_and]
  unfold riseB
  rw [List.all_eq_true]
  intro i hi
  have hi2 := List.mem_range.mp hi
  rw [List.length_drop, lb] at hi2
  obtain ⟨a, ha, ea⟩ := at_ i (by omega)
  obtain ⟨b, hb, eb⟩ := at_ (i + 1) (by omega)
  have := g.rise i a b ha hb
  refine decide_eq_true ?_
  have e : ((begs ts).drop 1).getD i 0 = (begs ts).getD (i + 1) 0 := by
    rw [List.getD_eq_getElem?_getD, List.getElem?_drop, Nat.add_comm 1 i, ← List.getD_eq_getElem?_getD]
  rw [ea, e, eb]
  exact this
theorem good_stand {os : List Ofr} {i : Nat} : ∀ {o : Ofr}, GoodO os i o → standO os i o = true
  | .pack _ _, _ => rfl
  | .many _ ts, h => good_tiers_true h
  | .add _ _ _, ⟨j, e, hj, c, p, h⟩ => by
    show namesB os i _ = true
    subst e
    unfold namesB packB
    rw [Int.toNat_natCast, h, decide_eq_true (by omega), decide_eq_true (by omega)]
    rfl
theorem good_first {os : List Ofr} (g : Good os) : firstBad os = none := find_range_none fun i hi => by
  have h := List.getElem?_eq_getElem hi
  rw [standB_at h, good_stand (g.2 i _ h)]
  rfl
theorem good_size {os : List Ofr} (g : Good os) : SizeO 5 os := fun c ts hm => by
  obtain ⟨i, hi, e⟩ := List.getElem_of_mem hm
  have : GoodT ts := by
    have := g.2 i _ (List.getElem?_eq_getElem hi)
    rw [e] at this
    exact this
  have := this.few
  omega
theorem ShopAt.cutE {T : List Addr} {d : Addr} {G G' : Hp} (e : Ext T G G') {q : Addr} {os : List Ofr} (h : ShopAt (cutH d G) q os) : ShopAt (cutH d G') q os := by
  obtain ⟨vs, h1, h2, h3⟩ := h
  have nd : ∀ {b : Addr} {o : HO}, cutH d G b = some o → b ≠ d := fun {b o} h z => by
    unfold cutH at h
    rw [if_pos z] at h
    cases h
  have kl : ∀ {b : Addr} {xs : List V}, cutH d G b = some (.lst xs) → cutH d G' b = some (.lst xs) := fun {b xs} h => cut_put (nd h) (e.lst (cut_le _ _ h))
  have kt : ∀ {b : Addr} {xs : List V}, cutH d G b = some (.tup xs) → cutH d G' b = some (.tup xs) := fun {b xs} h => cut_put (nd h) (e.tup (cut_le _ _ h))
  refine ⟨vs, kl h1, h2, fun i v o a b => ?_⟩
  have ho := h3 i v o a b
  cases o with
  | pack c p =>
    obtain ⟨b', k1, k2⟩ := ho
    exact ⟨b', kt k1, kl k2⟩
  | add c p kk =>
    obtain ⟨b', k1, k2⟩ := ho
    exact ⟨b', kt k1, kl k2⟩
  | many c ts =>
    obtain ⟨b', t', k1, k2, us, k3, k4, k5⟩ := ho
    exact ⟨b', t', kt k1, kl k2, us, kl k3, k4, fun i u tt a b => kt (k5 i u tt a b)⟩
/-- good offers ahead, another one behind -/
theorem packB_pre {os : List Ofr} {o : Ofr} {j k : Nat} (hk : k < j) (hj : j ≤ os.length) : packB (os.take j ++ [o]) k = packB os k := by
  unfold packB
  rw [List.getElem?_append_left (by rw [List.length_take]; omega), List.getElem?_take, if_pos hk]
theorem standB_pre {os : List Ofr} (g : Good os) {o : Ofr} {i j : Nat} (hi : i < j) (hj : j ≤ os.length) : standB (os.take j ++ [o]) i = true := by
  have h := List.getElem?_eq_getElem (show i < os.length by omega)
  have h' : (os.take j ++ [o])[i]? = some os[i] := by rw [List.getElem?_append_left (by rw [List.length_take]; omega), List.getElem?_take, if_pos hi, h]
  rw [standB_at h']
  have gs := good_stand (g.2 i _ h)
  cases e : os[i] with
  | pack c p => rfl
  | many c ts => rw [e] at gs; exact gs
  | add c p k =>
    rw [e] at gs
    have gs' : namesB os i k = true := gs
    show namesB (os.take j ++ [o]) i k = true
    unfold namesB at gs' ⊢
    rw [Bool.and_eq_true, Bool.and_eq_true] at gs' ⊢
    obtain ⟨⟨g1, g2⟩, g3⟩ := gs'
    have g1' := of_decide_eq_true g1
    have g2' := of_decide_eq_true g2
    refine ⟨⟨g1, g2⟩, ?_⟩
    rw [packB_pre (by omega) hj]
    exact g3
theorem first_pre {os : List Ofr} (g : Good os) {o : Ofr} {j : Nat} (hj : j ≤ os.length) (hb : standO (os.take j ++ [o]) j o = false) : firstBad (os.take j ++ [o]) = some j := by
  refine find_range_some (by rw [List.length_append, List.length_take]; show j < min j os.length + 1; omega) (fun i hi => by rw [standB_pre g hi hj]; rfl) ?_
  rw [standB_at (o := o) (by rw [List.getElem?_append_right (by rw [List.length_take]; omega), List.length_take, Nat.min_eq_left hj, Nat.sub_self]; rfl), hb]
  rfl
/-- an offer that can't stand behind these -/
def BadO (os : List Ofr) (j : Nat) (o : Ofr) : Prop := standO (os.take j ++ [o]) j o = false ∧ ∀ c ts, o = .many c ts → ts.length ≤ 1000
theorem bad_out {os : List Ofr} {j : Nat} {c : List Int} {p k : Int} (h : k < 0 ∨ (j : Int) ≤ k) : BadO os j (.add c p k) := by
  refine ⟨?_, fun c ts e => by cases e⟩
  show namesB _ j k = false
  unfold namesB
  rcases h with h | h
  · rw [decide_eq_false (by omega), Bool.false_and, Bool.false_and]
  · rw [decide_eq_false (by omega : ¬ k < (j : Int)), Bool.and_false, Bool.false_and]
theorem bad_no {os : List Ofr} {j k : Nat} {c : List Int} {p : Int} (hk : k < j) (hj : j ≤ os.length) (h : packB os k = false) : BadO os j (.add c p (k : Int)) := by
  refine ⟨?_, fun c ts e => by cases e⟩
  show namesB _ j (k : Int) = false
  unfold namesB
  rw [Int.toNat_natCast, packB_pre hk hj, h, Bool.and_false]
theorem bad_many {os : List Ofr} {j : Nat} {c : List Int} : BadO os j (.many c [(2, 5)]) := ⟨by show goodB [(2, 5)] = false; decide, fun c ts e => by cases e; decide⟩
def sp_law (K : PySem.W.Frag) (t : Addr) : Sp := fun vs H Q _ => ∃ (a : Addr) (ns : List Int), vs = [.ref a] ∧ SqL K H a (ns.map V.int) ∧ ns.length ≤ 63 ∧ GxR.TabG H t ∧ ∀ H', Q (.bl true) H'
section
variable {P : Program} {w : World} {K : PySem.W.Frag} {mg : Str → Option Value} {base : Heap}
theorem ok_law {f f_names_pack f_good_tiers f_can_stand f_look f_lines f_priced_lines f_line_content f_line_price f_bought f_all_steps f_cheapest f_least f_cases f_shows f_without f_spared f_thinned f_moves f_fair f_single_prices f_hold_together f_show_shop f_law_draws f_law_pop f_law_want f_law_cases f_law_content f_law_price f_law_tiers f_law_shop f_law_which f_law_asked_first f_law_asked f_law_refused c t C CP fI : Addr} {fd fd_names_pack fd_good_tiers fd_can_stand fd_look fd_lines fd_priced_lines fd_line_content fd_line_price fd_bought fd_all_steps fd_cheapest fd_least fd_cases fd_shows fd_without fd_spared fd_thinned fd_moves fd_fair fd_single_prices fd_hold_together fd_show_shop fd_law_draws fd_law_pop fd_law_want fd_law_cases fd_law_content fd_law_price fd_law_tiers fd_law_shop fd_law_which fd_law_asked_first fd_law_asked fd_law_refused fdI : FuncData} (M : Names mg) (D : Def K mg "law" s_law ["_law_script"] f fd)
    (D_names_pack : Def K mg "names_pack" s_names_pack ["shop", "at"] f_names_pack fd_names_pack)
    (D_good_tiers : Def K mg "good_tiers" s_good_tiers ["tiers"] f_good_tiers fd_good_tiers)
    (D_can_stand : Def K mg "can_stand" s_can_stand ["shop", "at"] f_can_stand fd_can_stand)
    (D_look : Def K mg "look" s_look ["shop"] f_look fd_look)
    (D_lines : Def K mg "lines" s_lines ["shop"] f_lines fd_lines)
    (D_priced_lines : Def K mg "priced_lines" s_priced_lines ["shop"] f_priced_lines fd_priced_lines)
    (D_line_content : Def K mg "line_content" s_line_content ["shop", "line"] f_line_content fd_line_content)
    (D_line_price : Def K mg "line_price" s_line_price ["shop", "line"] f_line_price fd_line_price)
    (D_bought : Def K mg "bought" s_bought ["shop", "purchase"] f_bought fd_bought)
    (D_all_steps : Def K mg "all_steps" s_all_steps ["priced", "want"] f_all_steps fd_all_steps)
    (D_cheapest : Def K mg "cheapest" s_cheapest ["priced", "want"] f_cheapest fd_cheapest)
    (D_least : Def K mg "least" s_least ["shop", "want"] f_least fd_least)
    (D_cases : Def K mg "cases" s_cases ["shop", "want"] f_cases fd_cases)
    (D_shows : Def K mg "shows" s_shows ["shop", "want", "table"] f_shows fd_shows)
    (D_without : Def K mg "without" s_without ["priced", "place"] f_without fd_without)
    (D_spared : Def K mg "spared" s_spared ["shop"] f_spared fd_spared)
    (D_thinned : Def K mg "thinned" s_thinned ["shop"] f_thinned fd_thinned)
    (D_moves : Def K mg "moves" s_moves ["shop", "want", "place"] f_moves fd_moves)
    (D_fair : Def K mg "fair" s_fair ["shop", "prices"] f_fair fd_fair)
    (D_single_prices : Def K mg "single_prices" s_single_prices ["shop", "want"] f_single_prices fd_single_prices)
    (D_hold_together : Def K mg "hold_together" s_hold_together ["shop", "want", "told"] f_hold_together fd_hold_together)
    (D_show_shop : Def K mg "show_shop" s_show_shop ["names", "shop"] f_show_shop fd_show_shop)
    (D_law_draws : Def K mg "_law_draws" s_law_draws ["_law_script", "_law_turn", "_law_many"] f_law_draws fd_law_draws)
    (D_law_pop : Def K mg "_law_pop" s_law_pop ["_law_draws_here"] f_law_pop fd_law_pop)
    (D_law_want : Def K mg "_law_want" s_law_want ["_law_draws_here", "_law_many"] f_law_want fd_law_want)
    (D_law_cases : Def K mg "_law_cases" s_law_cases ["_law_want_here"] f_law_cases fd_law_cases)
    (D_law_content : Def K mg "_law_content" s_law_content ["_law_draws_here", "_law_many"] f_law_content fd_law_content)
    (D_law_price : Def K mg "_law_price" s_law_price ["_law_draws_here"] f_law_price fd_law_price)
    (D_law_tiers : Def K mg "_law_tiers" s_law_tiers ["_law_draws_here"] f_law_tiers fd_law_tiers)
    (D_law_shop : Def K mg "_law_shop" s_law_shop ["_law_draws_here", "_law_many", "_law_most"] f_law_shop fd_law_shop)
    (D_law_which : Def K mg "_law_which" s_law_which ["_law_e"] f_law_which fd_law_which)
    (D_law_asked_first : Def K mg "_law_asked_first" s_law_asked_first ["_law_way", "_law_shop_here"] f_law_asked_first fd_law_asked_first)
    (D_law_asked : Def K mg "_law_asked" s_law_asked ["_law_way", "_law_shop_here", "_law_want_here"] f_law_asked fd_law_asked)
    (D_law_refused : Def K mg "_law_refused" s_law_refused ["_law_way", "_law_shop_here", "_law_want_here", "_law_place"] f_law_refused fd_law_refused)
    (hc : fd_good_tiers.code = .ref c) (TB : GxR.TabB base mg c t) (X : Exs K mg C CP fI fdI) (Y : ExKit K mg C CP) :
    FnOk P w K mg base CX0 10 f fd ["_law_script"] (sp_law K t) := by
  have m1 : t ∈ [t] := List.mem_cons_self
  have LK : ∀ k, FnOk P w K mg base (L2.CX P w) (k + 3) f_look fd_look ["shop"] (sp_look C [t]) := fun k => ok_look M X D_look D_can_stand D_names_pack D_good_tiers hc TB m1
  have LN : ∀ k, FnOk P w K mg base (L2.CX P w) (k + 4) f_lines fd_lines ["shop"] (sp_ref C [t] 0 1) := fun k => ref_lines D_lines D_look (LK k)
  have PL : ∀ k, FnOk P w K mg base (L2.CX P w) (k + 5) f_priced_lines fd_priced_lines ["shop"] (sp_ref C [t] 0 1) := fun k => ref_priced_lines D_priced_lines D_lines (LN k)
  have G_first : FnOk P w K mg base (L2.CX P w) 7 f_law_asked_first fd_law_asked_first ["_law_way", "_law_shop_here"] (fun vs H Q E => ∃ x, vs[0]? = some (.int x) ∧ sp_ref C [t] 1 2 vs H Q E) :=
    ok_asked_first M D_law_asked_first D_lines (LN 2) D_line_content (ref_line_content D_line_content D_look (LK 2)) D_line_price (ref_line_price D_line_price D_look (LK 2)) D_bought (ref_bought D_bought D_look (LK 2)) D_spared (ref_spared D_spared D_priced_lines (PL 0)) D_thinned (ref_thinned D_thinned D_priced_lines (PL 0))
  have G_asked : FnOk P w K mg base (L2.CX P w) 8 f_law_asked fd_law_asked ["_law_way", "_law_shop_here", "_law_want_here"] (sp_asked C [t]) :=
    ok_asked M D_law_asked D_law_asked_first G_first D_least (ref_least D_least D_priced_lines (PL 1) D_cheapest) D_cases (ref_cases D_cases D_priced_lines (PL 1) D_all_steps) D_shows (ref_shows D_shows D_priced_lines (PL 1)) D_fair (ref_fair D_fair D_priced_lines (PL 1)) D_single_prices (ref_single_prices D_single_prices D_priced_lines (PL 1)) D_hold_together (ref_hold_together D_hold_together D_priced_lines (PL 1)) D_moves (ref_moves D_moves D_priced_lines (PL 1) D_without) D_show_shop (ref_show_shop D_show_shop D_look (LK 3))
  have G_law_refused : FnOk P w K mg base CX0 9 f_law_refused fd_law_refused ["_law_way", "_law_shop_here", "_law_want_here", "_law_place"] (sp_refused [t]) := ok_refused M X Y D_law_refused D_law_asked G_asked D_law_which (ok_which M X Y D_law_which)
  have G_look : FnOk P w K mg base (L2.CX P w) 9 f_look fd_look ["shop"] (sp_look C [t]) := LK 6
  have G_law_draws : FnOk P w K mg base CX0 9 f_law_draws fd_law_draws ["_law_script", "_law_turn", "_law_many"] (sp_draws K) := ok_draws M D_law_draws
  have G_law_pop : FnOk P w K mg base CX0 9 f_law_pop fd_law_pop ["_law_draws_here"] sp_pop := ok_pop D_law_pop
  have G_law_want : FnOk P w K mg base CX0 9 f_law_want fd_law_want ["_law_draws_here", "_law_many"] sp_want := ok_want (k := 7) M D_law_want D_law_pop D_law_cases
  have G_law_content : FnOk P w K mg base CX0 9 f_law_content fd_law_content ["_law_draws_here", "_law_many"] sp_content := ok_content (k := 6) M D_law_content D_law_want D_law_pop D_law_cases
  have G_law_shop : FnOk P w K mg base CX0 9 f_law_shop fd_law_shop ["_law_draws_here", "_law_many", "_law_most"] sp_shop := ok_shop (k := 5) M D_law_shop D_law_content D_law_price D_law_tiers D_law_want D_law_pop D_law_cases
  refine D.F.ok sc_law (fun vs H Q E h => ?_) (fun cdv A outer s H vs Q E hr h => ?_)
  · obtain ⟨a, ns, rfl, _⟩ := h
    rfl
  · obtain ⟨a, ns, rfl, hS0, hlen, hT, q⟩ := h
    refine ⟨_, (pss_cons (ps_set (i := 1) sc_law.nd rfl (Or.inl rfl) (pe_call G_law_draws hr (by rfl) D_law_draws.g D_law_draws.F.kp D_law_draws.b .nil pass0 (pa_cons (pv 0) (pa_cons pe_int (pa_cons pe_int pa_nil)))))
  (pss_cons (ps_set (i := 2) sc_law.nd rfl (Or.inl rfl) (pe_op op_add pe_int (pe_op op_mod (pe_call G_law_pop hr (by rfl) D_law_pop.g D_law_pop.F.kp D_law_pop.b .nil pass0 (pa_cons (pv 1) pa_nil)) pe_int)))
  (pss_cons (ps_set (i := 3) sc_law.nd rfl (Or.inr rfl) (pe_call G_law_shop hr (by rfl) D_law_shop.g D_law_shop.F.kp D_law_shop.b .nil pass0 (pa_cons (pv 1) (pa_cons (pv 2) (pa_cons pe_int pa_nil)))))
  (pss_cons (ps_expr (pe_call G_look hr (by rfl) D_look.g D_look.F.kp D_look.b .nil passL (pa_cons (pv 3) pa_nil)))
  (pss_cons (ps_set (i := 4) sc_law.nd rfl (Or.inl rfl) (pe_call G_law_want hr (by rfl) D_law_want.g D_law_want.F.kp D_law_want.b .nil pass0 (pa_cons (pv 1) (pa_cons (pv 2) pa_nil))))
  (pss_cutI (ps_set (i := 5) sc_law.nd rfl (Or.inl rfl) (pe_op op_mod (pe_call G_law_pop hr (by rfl) D_law_pop.g D_law_pop.F.kp D_law_pop.b .nil pass0 (pa_cons (pv 1) pa_nil)) (pe_op op_add (pe_callB call_len_seq (by rfl) M.len (by decide +kernel) (pa_cons (pv 3) pa_nil)) pe_int)))
  (pss_cons (ps_set (i := 6) sc_law.nd rfl (Or.inl rfl) (pe_call G_law_content hr (by rfl) D_law_content.g D_law_content.F.kp D_law_content.b .nil pass0 (pa_cons (pv 1) (pa_cons (pv 2) pa_nil))))
  (pss_cons (ps_set (i := 7) sc_law.nd rfl (Or.inl rfl) (pe_call G_law_pop hr (by rfl) D_law_pop.g D_law_pop.F.kp D_law_pop.b .nil pass0 (pa_cons (pv 1) pa_nil)))
  (pss_cons (ps_set (i := 8) sc_law.nd rfl (Or.inl rfl) (pe_lst (pa_cons (pe_tup (pa_cons pe_str (pa_cons (pv 6) (pa_cons pe_int (pa_cons (pv 5) pa_nil))))) (pa_cons (pe_tup (pa_cons pe_str (pa_cons (pv 6) (pa_cons pe_int (pa_cons (pe_op op_add (pv 5) pe_int) pa_nil))))) (pa_cons (pe_tup (pa_cons pe_str (pa_cons (pv 6) (pa_cons pe_int (pa_cons (pe_un un_neg pe_int) pa_nil))))) (pa_cons (pe_tup (pa_cons pe_str (pa_cons (pv 6) (pa_cons (pe_lst (pa_cons (pe_tup (pa_cons pe_int (pa_cons pe_int pa_nil))) pa_nil)) pa_nil)))) pa_nil))))))
  (pss_cons (ps_setLc (i := 9) (own := [("_law_k", 12)]) (by rfl) sc_law.nd rfl rfl (sw_true rfl rfl rfl (by decide +kernel)) (pi_range1 (by rfl) M.range (pa_cons (pv 5) pa_nil)) (blkOk_by (own := [("_law_k", 12)]) (N := N_law) (sc := defScope s_law) (by decide +kernel)) (fun _ _ _ _ _ => (pg_name (i := 12) sc_law.nd rfl (Or.inl rfl))) (fun _ _ _ _ _ => (pts_one (pt_cmpR op_ne (pe_ix (ix_tupK (K := K) rfl) (pe_ix (ix_listK (K := K) rfl) (pv 3) (pv 12) (fun _ _ => rfl)) pe_int (fun _ _ => rfl)) pe_str (nomark _)))) (fun _ _ _ _ _ => (pv 12)))
  (pss_cutI (ps_if (pt_cmpR (op_neD hr.units) (pv 9) (pe_lst pa_nil) (nomark _))
   (pss_one (ps_expr (pe_bm PySem.F.plainAttrs_list PySem.F.slot_list_append PySem.F.type_list_append mt_append (pv 8) (pa_cons (pe_tup (pa_cons pe_str (pa_cons (pv 6) (pa_cons pe_int (pa_cons (pe_ix ix_list (pv 9) (pe_un un_neg pe_int) (fun _ _ => rfl)) pa_nil))))) pa_nil))))
   pss_nil)
  (pss_cons (ps_set (i := 10) sc_law.nd rfl (Or.inl rfl) (pe_op op_cat (pe_slice sl_list (pv 3) po_none (po_some (pv 5))) (pe_lst (pa_cons (pe_ix ix_list (pv 8) (pe_op op_mod (pv 7) (pe_callB call_len_seq (by rfl) M.len (by decide +kernel) (pa_cons (pv 8) pa_nil))) (fun _ _ => rfl)) pa_nil))))
  (pss_cons (ps_for PassesOwn.never rfl (pi_range1 (by rfl) M.range (pa_cons pe_int pa_nil)) (pg_name (i := 11) sc_law.nd rfl (Or.inl rfl))
   (pss_one (ps_if (pt_not (pt_val (pe_call G_law_refused hr (by rfl) D_law_refused.g D_law_refused.F.kp D_law_refused.b .nil pass0 (pa_cons (pv 11) (pa_cons (pv 10) (pa_cons (pv 4) (pa_cons (pv 5) pa_nil)))))))
   (pss_one (ps_ret pe_bl))
   pss_nil)))
  (pss_one (ps_ret pe_bl))))))))))))))), ?_⟩
    refine ⟨_, rfl, a, ns, 2, 80, rfl, hS0, by omega, by omega, by omega, fun H1 d ds s1 nd hd => ?_⟩
    have hT1 := tabG_same s1 hT
    refine ⟨_, rfl, d, ds, rfl, hd, fun H2 s2 hd2 => ?_⟩
    have hT2 := tabG_but s2 hd hT1
    generalize ds.headD 0 = x0
    generalize ds.tail = ds2 at hd2
    obtain ⟨m, hm1, hm4, em⟩ := draw4 x0
    refine ⟨_, _, rfl, rfl, (by show (0 : Int) < _; decide), _, _, rfl, rfl, ?_⟩
    refine ⟨_, rfl, _, rfl, d, _, m, 5, by show [V.ref d, V.int (1 + x0 % 4), V.int 5] = _; rw [em]; rfl, hd2, hm1, hm4, by decide, fun H3 S os ds3 s3 nS hS3 good ft h5 hd3 => ?_⟩
    have hT3 := tabG_but s3 hd2 hT2
    have fb := good_first good
    have sz5 := good_size good
    have tb : ∀ {G : Hp}, GxR.TabG G t → Tb [t] G := fun h u hu => by rw [List.mem_singleton.mp hu]; exact h
    -- look
    refine ⟨_, rfl, S, os, rfl, hS3.same cut_le, fun c ts h => Nat.le_trans (sz5 c ts h) (by decide), by omega, tb hT3, fun _ H4 e4 => ?_, fun n z => (by rw [fb] at z; cases z)⟩
    have hS4 := hS3.cutE (d := d) e4
    have hd4 := e4.lst hd3
    have hT4 : GxR.TabG H4 t := e4.t1 t m1
    -- want
    refine ⟨_, rfl, _, rfl, d, _, m, by show [V.ref d, V.int (1 + x0 % 4)] = _; rw [em], hd4, hm1, hm4, fun H5 wa ws ds5 s5 nw nwd hw hd5 hlw smw _ => ?_⟩
    have hT5 := tabG_but s5 hd4 hT4
    have hS5 : ShopAt (cutH d H5) S os := hS4.same (cut_same s5)
    have hS5' : ShopAt H5 S os := hS5.same cut_le
    obtain ⟨vs5, v51, v52, _⟩ := id hS5'
    obtain ⟨vc, c51, c52, _⟩ := id hS5
    have nSd : S ≠ d := fun z => by unfold cutH at c51; rw [if_pos z] at c51; cases c51
    -- at
    obtain ⟨j, hj, ej⟩ := mod_at (i := ds5.headD 0) (n := os.length + 1) (Nat.succ_pos _)
    refine ⟨fun σ H' => σ = [some (.ref a), some (.ref d), some (.int (1 + x0 % 4)), some (.ref S), some (.ref wa), some (.int (j : Int)), none, none, none, none, none, none, none] ∧ SameBut d H5 H' ∧ H' d = some (LI ds5.tail), ⟨_, rfl, d, ds5, rfl, hd5, fun H6 s6 hd6 => ⟨_, rfl, S, _, rfl, .inl (SqL.of (s6 _ _ nSd v51)), _, _, rfl, rfl, _, _, rfl, rfl, (by show (0 : Int) < (((vs5.map V.ref).length : Nat) : Int) + 1; omega), ?_, s6, hd6⟩⟩, fun σ' H6 hI => ?_⟩
    · show [some (V.ref a), some (.ref d), some (.int (1 + x0 % 4)), some (.ref S), some (.ref wa), some (.int (ds5.headD 0 % ((((vs5.map V.ref).length : Nat) : Int) + 1))), none, none, none, none, none, none, none] = _
      have e : ds5.headD 0 % ((((vs5.map V.ref).length : Nat) : Int) + 1) = (j : Int) := by
        rw [List.length_map, v52]
        exact ej
      rw [e]
    obtain ⟨rfl, s6, hd6⟩ := hI
    have hT6 := tabG_but s6 hd5 hT5
    generalize ds5.tail = ds6 at hd6
    have hjl : j ≤ os.length := by omega
    -- content
    refine ⟨_, rfl, _, rfl, d, _, m, by show [V.ref d, V.int (1 + x0 % 4)] = _; rw [em], hd6, hm1, hm4, fun H7 ca cs ds7 s7 nc ncd hca hd7 hlc smc => ?_⟩
    have hT7 := tabG_but s7 hd6 hT6
    -- number
    refine ⟨_, rfl, d, ds7, rfl, hd7, fun H8 s8 hd8 => ?_⟩
    have hT8 := tabG_but s8 hd7 hT7
    generalize ds7.headD 0 = n0
    have s58 := (s6.trans s7).trans s8
    have hS8 : ShopAt H8 S os := (hS5.same (cut_same s58)).same cut_le
    have hw8 := s58 _ _ nwd hw
    have hca8 := s8 _ _ ncd hca
    clear hS5 hS5' v51 c51 hS4 hS3 hca hw
    -- odd
    refine ⟨_, rfl, _, rfl, by show 4 ≤ sizeLine; decide, fun t1 k1 => ?_⟩
    have sa := same_upd (o := .tup [.str "add", .ref ca, .int 1, .int (j : Int)]) k1
    refine ⟨_, rfl, _, rfl, _, _, rfl, rfl, by show 4 ≤ sizeLine; decide, fun t2 k2 => ?_⟩
    have sb := same_upd (o := .tup [.str "add", .ref ca, .int 1, .int ((j : Int) + 1)]) k2
    refine ⟨_, rfl, 1, rfl, by show 4 ≤ sizeLine; decide, fun t3 k3 => ?_⟩
    have sc := same_upd (o := .tup [.str "add", .ref ca, .int 1, .int (-1)]) k3
    refine ⟨_, rfl, by show 2 ≤ sizeLine; decide, fun t4 k4 => ?_⟩
    have sd := same_upd (o := .tup [.int 2, .int 5]) k4
    refine ⟨by show 1 ≤ sizeLine; decide, fun t5 k5 => ?_⟩
    have se := same_upd (o := .lst [.ref t4]) k5
    refine ⟨by show 3 ≤ sizeLine; decide, fun t6 k6 => ?_⟩
    have sf := same_upd (o := .tup [.str "many", .ref ca, .ref t5]) k6
    refine ⟨by show 4 ≤ sizeLine; decide, fun O k7 => ?_⟩
    have sg := same_upd (o := .lst [.ref t1, .ref t2, .ref t3, .ref t6]) k7
    have s89 := sa.trans (sb.trans (sc.trans (sd.trans (se.trans (sf.trans sg)))))
    have nO : H8 O = none := (sa.trans (sb.trans (sc.trans (sd.trans (se.trans sf))))).free k7
    have hca9 := s89 _ _ hca8
    have b1 : OfrAt (upd (upd (upd (upd (upd (upd (upd H8 t1 (.tup [.str "add", .ref ca, .int 1, .int (j : Int)])) t2 (.tup [.str "add", .ref ca, .int 1, .int ((j : Int) + 1)])) t3 (.tup [.str "add", .ref ca, .int 1, .int (-1)])) t4 (.tup [.int 2, .int 5])) t5 (.lst [.ref t4])) t6 (.tup [.str "many", .ref ca, .ref t5])) O (.lst [.ref t1, .ref t2, .ref t3, .ref t6])) t1 (.add cs 1 (j : Int)) := ⟨ca, (sb.trans (sc.trans (sd.trans (se.trans (sf.trans sg))))) _ _ upd_same, hca9⟩
    have b2 : OfrAt (upd (upd (upd (upd (upd (upd (upd H8 t1 (.tup [.str "add", .ref ca, .int 1, .int (j : Int)])) t2 (.tup [.str "add", .ref ca, .int 1, .int ((j : Int) + 1)])) t3 (.tup [.str "add", .ref ca, .int 1, .int (-1)])) t4 (.tup [.int 2, .int 5])) t5 (.lst [.ref t4])) t6 (.tup [.str "many", .ref ca, .ref t5])) O (.lst [.ref t1, .ref t2, .ref t3, .ref t6])) t2 (.add cs 1 ((j : Int) + 1)) := ⟨ca, (sc.trans (sd.trans (se.trans (sf.trans sg)))) _ _ upd_same, hca9⟩
    have b3 : OfrAt (upd (upd (upd (upd (upd (upd (upd H8 t1 (.tup [.str "add", .ref ca, .int 1, .int (j : Int)])) t2 (.tup [.str "add", .ref ca, .int 1, .int ((j : Int) + 1)])) t3 (.tup [.str "add", .ref ca, .int 1, .int (-1)])) t4 (.tup [.int 2, .int 5])) t5 (.lst [.ref t4])) t6 (.tup [.str "many", .ref ca, .ref t5])) O (.lst [.ref t1, .ref t2, .ref t3, .ref t6])) t3 (.add cs 1 (-1)) := ⟨ca, (sd.trans (se.trans (sf.trans sg))) _ _ upd_same, hca9⟩
    have b4 : OfrAt (upd (upd (upd (upd (upd (upd (upd H8 t1 (.tup [.str "add", .ref ca, .int 1, .int (j : Int)])) t2 (.tup [.str "add", .ref ca, .int 1, .int ((j : Int) + 1)])) t3 (.tup [.str "add", .ref ca, .int 1, .int (-1)])) t4 (.tup [.int 2, .int 5])) t5 (.lst [.ref t4])) t6 (.tup [.str "many", .ref ca, .ref t5])) O (.lst [.ref t1, .ref t2, .ref t3, .ref t6])) t6 (.many cs [(2, 5)]) := ⟨ca, t5, sg _ _ upd_same, hca9, TiersAt.of_al (us := [t4]) ((sf.trans sg) _ _ upd_same) ⟨(se.trans (sf.trans sg)) _ _ upd_same, True.intro⟩⟩
    have hO : (upd (upd (upd (upd (upd (upd (upd H8 t1 (.tup [.str "add", .ref ca, .int 1, .int (j : Int)])) t2 (.tup [.str "add", .ref ca, .int 1, .int ((j : Int) + 1)])) t3 (.tup [.str "add", .ref ca, .int 1, .int (-1)])) t4 (.tup [.int 2, .int 5])) t5 (.lst [.ref t4])) t6 (.tup [.str "many", .ref ca, .ref t5])) O (.lst [.ref t1, .ref t2, .ref t3, .ref t6])) O = some (.lst (([t1, t2, t3, t6] : List Addr).map V.ref)) := upd_same
    generalize (upd (upd (upd (upd (upd (upd (upd H8 t1 (.tup [.str "add", .ref ca, .int 1, .int (j : Int)])) t2 (.tup [.str "add", .ref ca, .int 1, .int ((j : Int) + 1)])) t3 (.tup [.str "add", .ref ca, .int 1, .int (-1)])) t4 (.tup [.int 2, .int 5])) t5 (.lst [.ref t4])) t6 (.tup [.str "many", .ref ca, .ref t5])) O (.lst [.ref t1, .ref t2, .ref t3, .ref t6])) = H9 at s89 hca9 b1 b2 b3 b4 hO ⊢
    have odd9 : ∀ r ∈ [t1, t2, t3, t6], ∃ o, OfrAt H9 r o ∧ BadO os j o := fun r hr => by
      simp only [List.mem_cons, List.not_mem_nil, or_false] at hr
      rcases hr with rfl | rfl | rfl | rfl
      · exact ⟨_, b1, bad_out (.inr (by omega))⟩
      · exact ⟨_, b2, bad_out (.inr (by omega))⟩
      · exact ⟨_, b3, bad_out (.inl (by omega))⟩
      · exact ⟨_, b4, bad_many⟩
    have hS9 := hS8.same s89
    obtain ⟨vs, v1, v2, v3⟩ := id hS9
    clear sa sb sc sd se sf sg b1 b2 b3 b4
    -- bad
    refine ⟨_, rfl, _, rfl, by omega, by omega, fun B nB => lc_range (lo := 0) (n := ((j : Nat) : Int).toNat) (fun i H' => Same H9 H' ∧ ∃ ls : List Int, H' B = some (LI ls) ∧ ls.length ≤ i ∧ ∀ x ∈ ls, ∃ k : Nat, x = (k : Int) ∧ k < j ∧ packB os k = false) ⟨same_upd nB, [], upd_same, Nat.le_refl _, fun x hx => nomatch hx⟩ (fun i H10 hi hp => ?_) (fun H10 hp => ?_)⟩
    · obtain ⟨s10, ls, hB, hls, all⟩ := hp
      rw [Int.toNat_natCast] at hi
      obtain ⟨v', o', g4, g5, g6⟩ := ShopAt.get (H := H9) (a := S) v2 (show i < os.length by omega)
      obtain ⟨b', r', hb', _⟩ := (v3 i v' o' g4 g5).head
      have hb'' := s10 _ _ hb'
      refine ⟨rfl, _, rfl, _, rfl, S, _, _, _, rfl, rfl, SqL.of (s10 _ _ v1), at_of (Int.zero_add _) g6, v', _, _, _, rfl, rfl, SqT.of hb'', atI_nat (j := 0) rfl, rfl, ?_⟩
      have yes : packB os i = false → (upd H10 B (.lst (ls.map V.int ++ [.int (0 + (i : Int))])) B = some (LI (ls ++ [0 + (i : Int)])) ∧ (ls ++ [0 + (i : Int)]).length ≤ i + 1 ∧ ∀ x ∈ ls ++ [0 + (i : Int)], ∃ k : Nat, x = (k : Int) ∧ k < j ∧ packB os k = false) := fun z => ⟨at_app, by rw [List.length_append]; show ls.length + 1 ≤ _; omega, fun x hx => by
        rcases List.mem_append.mp hx with y | y
        · exact all x y
        · rw [List.mem_singleton.mp y]
          exact ⟨i, Int.zero_add _, hi, z⟩⟩
      cases o' with
      | pack c' p' => exact ⟨false, rfl, s10, ls, hB, by omega, all⟩
      | many c' ts' => exact ⟨true, rfl, _, rfl, _, hB, szL' (by rw [List.length_map]; omega), sm_new s10 nB, _, yes (by unfold packB; rw [g5])⟩
      | add c' p' k' => exact ⟨true, rfl, _, rfl, _, hB, szL' (by rw [List.length_map]; omega), sm_new s10 nB, _, yes (by unfold packB; rw [g5])⟩
    · obtain ⟨s10, ls, hB, hls, all⟩ := hp
      rw [Int.toNat_natCast] at hls
      have hO10 := s10 _ _ hO
      have s810 := s89.trans s10
      have odd10 : ∀ r ∈ [t1, t2, t3, t6], ∃ o, OfrAt H10 r o ∧ BadO os j o := fun r hr => by
        obtain ⟨o, h1, h2⟩ := odd9 r hr
        exact ⟨o, h1.same s10, h2⟩
      -- perhaps one more
      refine ⟨fun σ H' => ∃ rs : List Addr, σ = [some (.ref a), some (.ref d), some (.int (1 + x0 % 4)), some (.ref S), some (.ref wa), some (.int (j : Int)), some (.ref ca), some (.int n0), some (.ref O), some (.ref B), none, none, none] ∧ Same H8 H' ∧ H' O = some (.lst (rs.map V.ref)) ∧ 1 ≤ rs.length ∧ rs.length ≤ 5 ∧ ∀ r ∈ rs, ∃ o, OfrAt H' r o ∧ BadO os j o, ⟨_, rfl, by decide, fun e ne => ?_⟩, fun σ' H11 hI => ?_⟩
      · have se := same_upd (o := .lst []) ne
        refine ⟨_, _, dp_ints (SqL.of (se _ _ hB)), .lst (SqL.of upd_same) .nil, shaped_ints _, by decide +kernel, _, rfl, ?_⟩
        have ev : PyData.eqv (.list (ls.map PyData.int)) (.list []) = decide (ls = []) := eqv_ints ls []
        rw [ev]
        have hB11 := se _ _ hB
        have hO11 := se _ _ hO10
        have s811 := s810.trans se
        have odd11 : ∀ r ∈ [t1, t2, t3, t6], ∃ o, OfrAt (upd H10 e (.lst [])) r o ∧ BadO os j o := fun r hr => by
          obtain ⟨o, h1, h2⟩ := odd10 r hr
          exact ⟨o, h1.same se, h2⟩
        generalize upd H10 e (.lst []) = H11 at se hB11 hO11 s811 odd11 ⊢
        by_cases z : ls = []
        · rw [decide_eq_true z]
          exact ⟨[t1, t2, t3, t6], rfl, s811, hO11, by show 1 ≤ 4; decide, by show 4 ≤ 5; decide, odd11⟩
        · rw [decide_eq_false z]
          obtain ⟨L, x, el⟩ : ∃ L x, ls = L ++ [x] := by
            rcases List.eq_nil_or_concat ls with h | ⟨L, x, h⟩
            · exact absurd h z
            · exact ⟨L, x, by rw [h, List.concat_eq_append]⟩
          obtain ⟨k, rfl, hk, hpk⟩ := all x (by rw [el]; exact List.mem_append.mpr (.inr List.mem_cons_self))
          have hneg : atI (ls.map V.int) (-1) = some (.int (k : Int)) := by rw [el, List.map_append]; exact atI_last _ _
          refine ⟨_, rfl, .inl ⟨rfl, _, SqL.of hO11⟩, _, rfl, _, rfl, 1, rfl, B, _, -1, _, rfl, rfl, SqL.of hB11, hneg, by show 4 ≤ sizeLine; decide, fun u nu => ?_⟩
          have su := same_upd (o := .tup [.str "add", .ref ca, .int 1, .int (k : Int)]) nu
          have hO12 := su _ _ hO11
          refine ⟨O, _, _, rfl, rfl, hO12, by show 4 < sizeLine; decide, [t1, t2, t3, t6, u], rfl, sm_new (s811.trans su) nO, upd_same, by show 1 ≤ 5; decide, by show 5 ≤ 5; decide, fun r hr => ?_⟩
          have keepO : ∀ {r : Addr} {o : Ofr}, OfrAt (upd H11 u (.tup [.str "add", .ref ca, .int 1, .int (k : Int)])) r o → OfrAt (upd (upd H11 u (.tup [.str "add", .ref ca, .int 1, .int (k : Int)])) O (.lst (([t1, t2, t3, t6] : List Addr).map V.ref ++ [.ref u]))) r o := fun {r o} h => by
            obtain ⟨o1, w1, _⟩ := odd11 t1 List.mem_cons_self
            obtain ⟨b1, r1, hv1, _⟩ := (w1.same su).head
            exact ofr_other hO12 hv1 h
          have hr' : r ∈ [t1, t2, t3, t6] ∨ r = u := by
            simp only [List.mem_cons, List.not_mem_nil, or_false] at hr ⊢
            rcases hr with h | h | h | h | h
            · exact .inl (.inl h)
            · exact .inl (.inr (.inl h))
            · exact .inl (.inr (.inr (.inl h)))
            · exact .inl (.inr (.inr (.inr h)))
            · exact .inr h
          rcases hr' with h | h
          · obtain ⟨o, w1, w2⟩ := odd11 r h
            exact ⟨o, keepO (w1.same su), w2⟩
          · rw [h]
            exact ⟨.add cs 1 (k : Int), keepO ⟨ca, upd_same, su _ _ (s811 _ _ hca8)⟩, bad_no hk hjl hpk⟩
      · obtain ⟨rs, rfl, s811, hO11, lr1, lr5, odd⟩ := hI
        -- the spoilt shop
        obtain ⟨vs, v1, v2, v3⟩ := hS8.same s811
        refine ⟨_, rfl, _, rfl, _, rfl, S, _, rfl, SqL.of v1, fun l1 n1 => ?_⟩
        rw [cut_toR]
        have sa := same_upd (o := .lst ((vs.map V.ref).take j)) n1
        obtain ⟨i, hi, ei⟩ := mod_at (i := n0) (n := rs.length) (by omega)
        have gr := List.getElem?_eq_getElem hi
        obtain ⟨o, w1, w2⟩ := odd _ (List.getElem_mem hi)
        generalize rs[i] = r at gr w1 w2
        refine ⟨_, rfl, _, rfl, _, rfl, O, _, rfl, .inl (SqL.of (sa _ _ hO11)), _, _, rfl, rfl, (by show (0 : Int) < (((rs.map V.ref).length : Nat) : Int); rw [List.length_map]; omega), O, _, _, _, rfl, rfl, SqL.of (sa _ _ hO11), at_of (by rw [List.length_map]; exact ei) (show (rs.map V.ref)[i]? = some (.ref r) by rw [List.getElem?_map, gr]; rfl), by show 1 ≤ sizeLine; decide, fun l2 n2 => ?_⟩
        have sb := same_upd (o := .lst [.ref r]) n2
        refine ⟨l1, l2, _, _, rfl, rfl, sb _ _ upd_same, upd_same, szL (by show ((vs.map V.ref).take j).length + 1 ≤ _; rw [List.length_take, List.length_map]; omega), fun l3 n3 => ?_⟩
        have sc := (sa.trans sb).trans (same_upd (o := .lst ((vs.map V.ref).take j ++ [.ref r])) n3)
        have hsp : ShopAt (upd (upd (upd H11 l1 (.lst ((vs.map V.ref).take j))) l2 (.lst [.ref r])) l3 (.lst ((vs.map V.ref).take j ++ [.ref r]))) l3 (os.take j ++ [o]) := by
          refine ⟨vs.take j ++ [r], by rw [upd_same, List.map_append, List.map_take]; rfl, by rw [List.length_append, List.length_append, List.length_take, List.length_take, v2]; rfl, fun i' v o' g1 g2 => ?_⟩
          by_cases z : i' < j
          · rw [List.getElem?_append_left (by rw [List.length_take]; omega), List.getElem?_take, if_pos z] at g1 g2
            exact (v3 i' v o' g1 g2).same sc
          · have z2 := (List.getElem?_eq_some_iff.mp g1).1
            rw [List.length_append, List.length_take] at z2
            have z3 : i' < min j vs.length + 1 := z2
            have z4 : i' = j := by omega
            subst z4
            rw [List.getElem?_append_right (by rw [List.length_take]; omega), List.length_take, Nat.min_eq_left (by omega), Nat.sub_self] at g1 g2
            cases Option.some.inj g1
            cases Option.some.inj g2
            exact w1.same sc
        have s8s := s811.trans sc
        have hws := s8s _ _ hw8
        have hTs : Tb [t] _ := tb (tabG_same s8s hT8)
        have fbs := first_pre good hjl w2.1
        have szs : SizeO 1000 (os.take j ++ [o]) := fun c ts hm => by
          rcases List.mem_append.mp hm with z | z
          · exact Nat.le_trans (sz5 c ts (List.mem_of_mem_take z)) (by decide)
          · exact w2.2 c ts (List.mem_singleton.mp z).symm
        have ls99 : (os.take j ++ [o]).length ≤ 99 := by rw [List.length_append, List.length_take]; show min j os.length + 1 ≤ 99; omega
        generalize upd (upd (upd H11 l1 (.lst ((vs.map V.ref).take j))) l2 (.lst [.ref r])) l3 (.lst ((vs.map V.ref).take j ++ [.ref r])) = HS at hsp hws hTs ⊢
        refine ⟨_, rfl, by decide, by decide, for_range (n := 14) (fun _ σ H' => ∃ y11, σ = [some (.ref a), some (.ref d), some (.int (1 + x0 % 4)), some (.ref S), some (.ref wa), some (.int (j : Int)), some (.ref ca), some (.int n0), some (.ref O), some (.ref B), some (.ref l3), y11, none] ∧ Ext [t] HS H') ⟨none, rfl, .refl hTs⟩ (fun i2 σ H12 _ hp => ?_) (fun σ H12 _ => q H12)⟩
        obtain ⟨y11, rfl, e12⟩ := hp
        refine ⟨_, rfl, _, rfl, _, rfl, _, rfl, _, l3, wa, ws, os.take j ++ [o], j, rfl, e12.lst hws, by omega, hsp.ext e12, szs, ls99, fbs, e12.t1, fun H13 e13 => ⟨true, rfl, ?_⟩⟩
        exact ⟨_, rfl, e12.trans e13⟩
end
/-! ### the end, with tables of code objects -/
theorem tabIn_of {K : PySem.W.Frag} {x : Str} {f c P : Addr} {oc e : Value} {od dd : Option Addr} {fd : FuncData} {sl sl' : Array (Option Value)} {vs : Array Value} (a : PySem.W.nsIn K mainGlobals x = some (some (.ref f))) (l : K.lookup f = some ⟨oc, od, .func fd, sl⟩) (hc : fd.code = .ref c)
    (lc : K.lookup c = some ⟨e, dd, .fields vs, sl'⟩) (hv : vs[11]? = some (.ref P)) : PySem.W.tabIn K x = some (c, P) := by
  unfold PySem.W.tabIn
  rw [a]
  simp only [l, hc, lc, hv]
theorem walk_ofG {l : PySem.W.OpenLaw} {n k : Nat} {q : Program} {loose : List Str} {XP : (Str → Option Value) → Heap → Prop} {YP : World → Heap → Prop} {d : DefRec} {K : Params → PySem.W.Frag} {CX : World → CXT} {x : Str}
    (hn : l.most = some n) (hn2 : n ≤ sizeLine) (hdf : d.params.defaults = []) (hr : Room k callerA) (hY : ∀ (w : World) (h : Heap), YP w h → (K w.params).In h)
    (F : ∀ (w : World) (mg : Str → Option Value) (fa : Addr) (h : Heap), (K w.params).In h → h.Ns mainGlobals mg → mg d.name = some (.ref fa) →
      (∀ (y : Str) (c P : Addr), ((recsOf q).find? fun e => e.name == y).isSome = true → PySem.W.tabIn (K w.params) y = some (c, P) → PySem.W.CodeHd h c P ∧ h.get? P = some { cls := .none, data := .fields #[] }) → LamX.LawAtS l w (K w.params) (CX w) k n x mg fa h)
    (hCX : ∀ (w : World) (H : Hp) (s : Shared) (e : Value) (s' : Shared), CX w [] H s (fun _ _ _ => False) e s' → False) :
    PySem.W.WalkO q loose XP YP l.row.toRowW d [] (fun f vs => PySem.call f vs) := by
  refine Att.attach_callB hn hdf fun w s₀ s₁ mg mb fa o pm cd doc a vs ns G Y ho hd hcd hmg hobj hints hlen hbits hg => ?_
  have KX := hY w _ Y
  obtain ⟨fd, cs, sp, hT, nT, C, hb, hsp, hF⟩ := F w mg fa _ KX G.T.g hmg fun y c P hy ht => by
    obtain ⟨dd, hdd⟩ := Option.isSome_iff_exists.mp hy
    exact PySem.W.tab_of G.T KX hdd ht
  exact LamX.law_callTs KX G.T.g G.T.b G.T.builtins G.T.nolimit hg hT nT C G.T.bmain hobj hints (Nat.le_trans hlen hn2) hr hF hb (fun H hH hS => hsp H a ns hlen hbits hH hS) fun H e s' => hCX w H s₁ e s'
/-! ### what the top has written -/
theorem all_mk {l : PySem.W.OpenLaw} {w : World} {q : Program} {K : PySem.W.Frag} {h : Heap} {mg : Str → Option Value} {fa f1 f2 f3 f4 f5 f6 f7 f8 f9 f10 f11 f12 f13 f14 f15 f16 f17 f18 f19 f20 f21 f22 f23 f24 f25 f26 f27 f28 f29 f30 f31 f32 f33 f34 f35 : Addr} (X : K.In h) (G : h.Ns mainGlobals mg) (hfa : mg "law" = some (.ref fa))
    (tabs : ∀ (y : Str) (c P : Addr), ((recsOf q).find? fun e => e.name == y).isSome = true → PySem.W.tabIn K y = some (c, P) → PySem.W.CodeHd h c P ∧ h.get? P = some { cls := .none, data := .fields #[] })
    {od1 an1 od2 an2 od3 an3 od4 an4 od5 an5 od6 an6 od7 an7 od8 an8 od9 an9 od10 an10 od11 an11 od12 an12 od13 an13 od14 an14 od15 an15 od16 an16 od17 an17 od18 an18 od19 an19 od20 an20 od21 an21 od22 an22 od23 an23 od24 an24 od25 an25 od26 an26 od27 an27 od28 an28 od29 an29 od30 an30 od31 an31 od32 an32 od33 an33 od34 an34 od35 an35 : Option Addr} {sl1 sl2 sl3 sl4 sl5 sl6 sl7 sl8 sl9 sl10 sl11 sl12 sl13 sl14 sl15 sl16 sl17 sl18 sl19 sl20 sl21 sl22 sl23 sl24 sl25 sl26 sl27 sl28 sl29 sl30 sl31 sl32 sl33 sl34 sl35 : Array (Option Value)} {oc1 kV1 dc1 pm1 ct1 cd1 oc2 kV2 dc2 pm2 ct2 cd2 oc3 kV3 dc3 pm3 ct3 oc4 kV4 dc4 pm4 ct4 cd4 oc5 kV5 dc5 pm5 ct5 cd5 oc6 kV6 dc6 pm6 ct6 cd6 oc7 kV7 dc7 pm7 ct7 cd7 oc8 kV8 dc8 pm8 ct8 cd8 oc9 kV9 dc9 pm9 ct9 cd9 oc10 kV10 dc10 pm10 ct10 cd10 oc11 kV11 dc11 pm11 ct11 cd11 oc12 kV12 dc12 pm12 ct12 cd12 oc13 kV13 dc13 pm13 ct13 cd13 oc14 kV14 dc14 pm14 ct14 cd14 oc15 kV15 dc15 pm15 ct15 cd15 oc16 kV16 dc16 pm16 ct16 cd16 oc17 kV17 dc17 pm17 ct17 cd17 oc18 kV18 dc18 pm18 ct18 cd18 oc19 kV19 dc19 pm19 ct19 cd19 oc20 kV20 dc20 pm20 ct20 cd20 oc21 kV21 dc21 pm21 ct21 cd21 oc22 kV22 dc22 pm22 ct22 cd22 oc23 kV23 dc23 pm23 ct23 cd23 oc24 kV24 dc24 pm24 ct24 cd24 oc25 kV25 dc25 pm25 ct25 cd25 oc26 kV26 dc26 pm26 ct26 cd26 oc27 kV27 dc27 pm27 ct27 cd27 oc28 kV28 dc28 pm28 ct28 cd28 oc29 kV29 dc29 pm29 ct29 cd29 oc30 kV30 dc30 pm30 ct30 cd30 oc31 kV31 dc31 pm31 ct31 cd31 oc32 kV32 dc32 pm32 ct32 cd32 oc33 kV33 dc33 pm33 ct33 cd33 oc34 kV34 dc34 pm34 ct34 cd34 oc35 kV35 dc35 pm35 ct35 cd35 : Value}
    {cT3 PT3 : Addr} {eT3 : Value} {dT3 : Option Addr} {vT3 : Array Value} {sT3 : Array (Option Value)}
    {C CP fI cNoLine cNoPlace cNoText cNoThings : Addr} {nmC qC : Str} {NC : Addr} {bsC : List Value} {snC : List Str} {subC : List Value} {abC : Bool} {colC : Option Bool} {ddC : Option Addr} {mC0 mC1 mC2 mC3 mC5 : Option Value} {odI anI : Option Addr} {slI : Array (Option Value)} {ocI kVI dcI pmI cdI ctI : Value}
    (xaC : PySem.W.nsIn K mainGlobals "NoOffer" = some (some (.ref C)))
    (xaP : PySem.W.nsIn K mainGlobals "PackError" = some (some (.ref CP)))
    (xL : K.lookup C = some (excClassObj nmC qC C NC bsC [.ref CP, .type "ValueError", .type "Exception", .type "BaseException", .type "object"] true snC subC abC colC ddC mC0 mC1 mC2 mC3 mC5 "ValueError.__new__"))
    (xsa : PySem.W.findIn K (.ref C) "__setattr__" = some (some (.builtin "object.__setattr__")))
    (xex : PySem.W.subIn K (.ref C) (.type "BaseException") = some true)
    (xty : PySem.W.typeIn K (.ref C) = some (.type "type"))
    (xkC : PySem.W.keepIn K (.ref C) = true)
    (xrP : PySem.W.readsIn K CP (.type "type") = true)
    (xgP : PySem.W.specialIn K (.ref CP) "__getattribute__" = some (some (.builtin "type.__getattribute__")))
    (xvP : PySem.W.findCls K (.ref CP) (.type "type") "__init__" = some (.val (.builtin "ValueError.__init__")))
    (xnp : PySem.W.findIn K (.ref C) "place" = some none)
    (xiC : PySem.W.findIn K (.ref C) "__init__" = some (some (.ref fI)))
    (xtI : PySem.W.typeIn K (.ref fI) = some (.type "function"))
    (xlI : K.lookup fI = some ⟨ocI, odI, .func (PySem.W.fnOf "__init__" "NoOffer.__init__" (defArgs s_ninit) (defBody s_ninit) (defScope s_ninit) .none kVI dcI pmI anI cdI ctI), slI⟩)
    (xcI : PySem.W.codeIn K cdI "NoOffer.__init__" = true)
    (xkI : PySem.W.keepIn K (.ref fI) = true)
    (xhg : PySem.W.findIn K (.ref C) "__getattribute__" = some (some (.builtin "BaseException.__getattribute__")))
    (xhk : PySem.W.findIn K (.ref C) "__getattr__" = some none)
    (xhd : PySem.W.hasDictIn K C = true)
    (xha : PySem.W.findIn K (.ref C) "__class__" = some (some (.builtin "object.__class__")))
    (xhn : PySem.W.specialIn K (.builtin "object.__class__") "__get__" = some (some (.builtin "getset_descriptor.__get__")))
    (xht : PySem.W.takesIn K (.builtin "object.__class__") = some true)
    (xhm : PySem.W.mroIn K C (.type "object") = some true)
    (xv : PySem.W.nsIn K mainGlobals "ValueError" = some none)
    (xkv : PySem.W.kitOne K (.ref C) (.type "ValueError") = some true)
    (xkp : PySem.W.kitOne K (.ref C) (.ref CP) = some true)
    (xkn : PySem.W.kitOne K (.ref C) (.ref C) = some true)
    (xem : PySem.W.exmOne K (.ref C) (.ref CP) = some true)
    (xaNoLine : PySem.W.nsIn K mainGlobals "NoLine" = some (some (.ref cNoLine)))
    (xkNoLine : PySem.W.kitOne K (.ref C) (.ref cNoLine) = some false)
    (xaNoPlace : PySem.W.nsIn K mainGlobals "NoPlace" = some (some (.ref cNoPlace)))
    (xkNoPlace : PySem.W.kitOne K (.ref C) (.ref cNoPlace) = some false)
    (xaNoText : PySem.W.nsIn K mainGlobals "NoText" = some (some (.ref cNoText)))
    (xkNoText : PySem.W.kitOne K (.ref C) (.ref cNoText) = some false)
    (xaNoThings : PySem.W.nsIn K mainGlobals "NoThings" = some (some (.ref cNoThings)))
    (xkNoThings : PySem.W.kitOne K (.ref C) (.ref cNoThings) = some false)
    (a1 : PySem.W.nsIn K mainGlobals "law" = some (some (.ref f1))) (l1 : K.lookup f1 = some ⟨oc1, od1, .func (PySem.W.fnOf "law" "law" (defArgs s_law) (defBody s_law) (defScope s_law) .none kV1 dc1 pm1 an1 cd1 ct1), sl1⟩) (c1 : PySem.W.codeIn K cd1 "law" = true) (k1 : PySem.W.keepIn K (.ref f1) = true)
    (a2 : PySem.W.nsIn K mainGlobals "names_pack" = some (some (.ref f2))) (l2 : K.lookup f2 = some ⟨oc2, od2, .func (PySem.W.fnOf "names_pack" "names_pack" (defArgs s_names_pack) (defBody s_names_pack) (defScope s_names_pack) .none kV2 dc2 pm2 an2 cd2 ct2), sl2⟩) (c2 : PySem.W.codeIn K cd2 "names_pack" = true) (k2 : PySem.W.keepIn K (.ref f2) = true)
    (a3 : PySem.W.nsIn K mainGlobals "good_tiers" = some (some (.ref f3))) (l3 : K.lookup f3 = some ⟨oc3, od3, .func (PySem.W.fnOf "good_tiers" "good_tiers" (defArgs s_good_tiers) (defBody s_good_tiers) (defScope s_good_tiers) .none kV3 dc3 pm3 an3 (.ref cT3) ct3), sl3⟩) (c3 : PySem.W.codeIn K (.ref cT3) "good_tiers" = true) (k3 : PySem.W.keepIn K (.ref f3) = true)
    (a4 : PySem.W.nsIn K mainGlobals "can_stand" = some (some (.ref f4))) (l4 : K.lookup f4 = some ⟨oc4, od4, .func (PySem.W.fnOf "can_stand" "can_stand" (defArgs s_can_stand) (defBody s_can_stand) (defScope s_can_stand) .none kV4 dc4 pm4 an4 cd4 ct4), sl4⟩) (c4 : PySem.W.codeIn K cd4 "can_stand" = true) (k4 : PySem.W.keepIn K (.ref f4) = true)
    (a5 : PySem.W.nsIn K mainGlobals "look" = some (some (.ref f5))) (l5 : K.lookup f5 = some ⟨oc5, od5, .func (PySem.W.fnOf "look" "look" (defArgs s_look) (defBody s_look) (defScope s_look) .none kV5 dc5 pm5 an5 cd5 ct5), sl5⟩) (c5 : PySem.W.codeIn K cd5 "look" = true) (k5 : PySem.W.keepIn K (.ref f5) = true)
    (a6 : PySem.W.nsIn K mainGlobals "lines" = some (some (.ref f6))) (l6 : K.lookup f6 = some ⟨oc6, od6, .func (PySem.W.fnOf "lines" "lines" (defArgs s_lines) (defBody s_lines) (defScope s_lines) .none kV6 dc6 pm6 an6 cd6 ct6), sl6⟩) (c6 : PySem.W.codeIn K cd6 "lines" = true) (k6 : PySem.W.keepIn K (.ref f6) = true)
    (a7 : PySem.W.nsIn K mainGlobals "priced_lines" = some (some (.ref f7))) (l7 : K.lookup f7 = some ⟨oc7, od7, .func (PySem.W.fnOf "priced_lines" "priced_lines" (defArgs s_priced_lines) (defBody s_priced_lines) (defScope s_priced_lines) .none kV7 dc7 pm7 an7 cd7 ct7), sl7⟩) (c7 : PySem.W.codeIn K cd7 "priced_lines" = true) (k7 : PySem.W.keepIn K (.ref f7) = true)
    (a8 : PySem.W.nsIn K mainGlobals "line_content" = some (some (.ref f8))) (l8 : K.lookup f8 = some ⟨oc8, od8, .func (PySem.W.fnOf "line_content" "line_content" (defArgs s_line_content) (defBody s_line_content) (defScope s_line_content) .none kV8 dc8 pm8 an8 cd8 ct8), sl8⟩) (c8 : PySem.W.codeIn K cd8 "line_content" = true) (k8 : PySem.W.keepIn K (.ref f8) = true)
    (a9 : PySem.W.nsIn K mainGlobals "line_price" = some (some (.ref f9))) (l9 : K.lookup f9 = some ⟨oc9, od9, .func (PySem.W.fnOf "line_price" "line_price" (defArgs s_line_price) (defBody s_line_price) (defScope s_line_price) .none kV9 dc9 pm9 an9 cd9 ct9), sl9⟩) (c9 : PySem.W.codeIn K cd9 "line_price" = true) (k9 : PySem.W.keepIn K (.ref f9) = true)
    (a10 : PySem.W.nsIn K mainGlobals "bought" = some (some (.ref f10))) (l10 : K.lookup f10 = some ⟨oc10, od10, .func (PySem.W.fnOf "bought" "bought" (defArgs s_bought) (defBody s_bought) (defScope s_bought) .none kV10 dc10 pm10 an10 cd10 ct10), sl10⟩) (c10 : PySem.W.codeIn K cd10 "bought" = true) (k10 : PySem.W.keepIn K (.ref f10) = true)
    (a11 : PySem.W.nsIn K mainGlobals "all_steps" = some (some (.ref f11))) (l11 : K.lookup f11 = some ⟨oc11, od11, .func (PySem.W.fnOf "all_steps" "all_steps" (defArgs s_all_steps) (defBody s_all_steps) (defScope s_all_steps) .none kV11 dc11 pm11 an11 cd11 ct11), sl11⟩) (c11 : PySem.W.codeIn K cd11 "all_steps" = true) (k11 : PySem.W.keepIn K (.ref f11) = true)
    (a12 : PySem.W.nsIn K mainGlobals "cheapest" = some (some (.ref f12))) (l12 : K.lookup f12 = some ⟨oc12, od12, .func (PySem.W.fnOf "cheapest" "cheapest" (defArgs s_cheapest) (defBody s_cheapest) (defScope s_cheapest) .none kV12 dc12 pm12 an12 cd12 ct12), sl12⟩) (c12 : PySem.W.codeIn K cd12 "cheapest" = true) (k12 : PySem.W.keepIn K (.ref f12) = true)
    (a13 : PySem.W.nsIn K mainGlobals "least" = some (some (.ref f13))) (l13 : K.lookup f13 = some ⟨oc13, od13, .func (PySem.W.fnOf "least" "least" (defArgs s_least) (defBody s_least) (defScope s_least) .none kV13 dc13 pm13 an13 cd13 ct13), sl13⟩) (c13 : PySem.W.codeIn K cd13 "least" = true) (k13 : PySem.W.keepIn K (.ref f13) = true)
    (a14 : PySem.W.nsIn K mainGlobals "cases" = some (some (.ref f14))) (l14 : K.lookup f14 = some ⟨oc14, od14, .func (PySem.W.fnOf "cases" "cases" (defArgs s_cases) (defBody s_cases) (defScope s_cases) .none kV14 dc14 pm14 an14 cd14 ct14), sl14⟩) (c14 : PySem.W.codeIn K cd14 "cases" = true) (k14 : PySem.W.keepIn K (.ref f14) = true)
    (a15 : PySem.W.nsIn K mainGlobals "shows" = some (some (.ref f15))) (l15 : K.lookup f15 = some ⟨oc15, od15, .func (PySem.W.fnOf "shows" "shows" (defArgs s_shows) (defBody s_shows) (defScope s_shows) .none kV15 dc15 pm15 an15 cd15 ct15), sl15⟩) (c15 : PySem.W.codeIn K cd15 "shows" = true) (k15 : PySem.W.keepIn K (.ref f15) = true)
    (a16 : PySem.W.nsIn K mainGlobals "without" = some (some (.ref f16))) (l16 : K.lookup f16 = some ⟨oc16, od16, .func (PySem.W.fnOf "without" "without" (defArgs s_without) (defBody s_without) (defScope s_without) .none kV16 dc16 pm16 an16 cd16 ct16), sl16⟩) (c16 : PySem.W.codeIn K cd16 "without" = true) (k16 : PySem.W.keepIn K (.ref f16) = true)
    (a17 : PySem.W.nsIn K mainGlobals "spared" = some (some (.ref f17))) (l17 : K.lookup f17 = some ⟨oc17, od17, .func (PySem.W.fnOf "spared" "spared" (defArgs s_spared) (defBody s_spared) (defScope s_spared) .none kV17 dc17 pm17 an17 cd17 ct17), sl17⟩) (c17 : PySem.W.codeIn K cd17 "spared" = true) (k17 : PySem.W.keepIn K (.ref f17) = true)
    (a18 : PySem.W.nsIn K mainGlobals "thinned" = some (some (.ref f18))) (l18 : K.lookup f18 = some ⟨oc18, od18, .func (PySem.W.fnOf "thinned" "thinned" (defArgs s_thinned) (defBody s_thinned) (defScope s_thinned) .none kV18 dc18 pm18 an18 cd18 ct18), sl18⟩) (c18 : PySem.W.codeIn K cd18 "thinned" = true) (k18 : PySem.W.keepIn K (.ref f18) = true)
    (a19 : PySem.W.nsIn K mainGlobals "moves" = some (some (.ref f19))) (l19 : K.lookup f19 = some ⟨oc19, od19, .func (PySem.W.fnOf "moves" "moves" (defArgs s_moves) (defBody s_moves) (defScope s_moves) .none kV19 dc19 pm19 an19 cd19 ct19), sl19⟩) (c19 : PySem.W.codeIn K cd19 "moves" = true) (k19 : PySem.W.keepIn K (.ref f19) = true)
    (a20 : PySem.W.nsIn K mainGlobals "fair" = some (some (.ref f20))) (l20 : K.lookup f20 = some ⟨oc20, od20, .func (PySem.W.fnOf "fair" "fair" (defArgs s_fair) (defBody s_fair) (defScope s_fair) .none kV20 dc20 pm20 an20 cd20 ct20), sl20⟩) (c20 : PySem.W.codeIn K cd20 "fair" = true) (k20 : PySem.W.keepIn K (.ref f20) = true)
    (a21 : PySem.W.nsIn K mainGlobals "single_prices" = some (some (.ref f21))) (l21 : K.lookup f21 = some ⟨oc21, od21, .func (PySem.W.fnOf "single_prices" "single_prices" (defArgs s_single_prices) (defBody s_single_prices) (defScope s_single_prices) .none kV21 dc21 pm21 an21 cd21 ct21), sl21⟩) (c21 : PySem.W.codeIn K cd21 "single_prices" = true) (k21 : PySem.W.keepIn K (.ref f21) = true)
    (a22 : PySem.W.nsIn K mainGlobals "hold_together" = some (some (.ref f22))) (l22 : K.lookup f22 = some ⟨oc22, od22, .func (PySem.W.fnOf "hold_together" "hold_together" (defArgs s_hold_together) (defBody s_hold_together) (defScope s_hold_together) .none kV22 dc22 pm22 an22 cd22 ct22), sl22⟩) (c22 : PySem.W.codeIn K cd22 "hold_together" = true) (k22 : PySem.W.keepIn K (.ref f22) = true)
    (a23 : PySem.W.nsIn K mainGlobals "show_shop" = some (some (.ref f23))) (l23 : K.lookup f23 = some ⟨oc23, od23, .func (PySem.W.fnOf "show_shop" "show_shop" (defArgs s_show_shop) (defBody s_show_shop) (defScope s_show_shop) .none kV23 dc23 pm23 an23 cd23 ct23), sl23⟩) (c23 : PySem.W.codeIn K cd23 "show_shop" = true) (k23 : PySem.W.keepIn K (.ref f23) = true)
    (a24 : PySem.W.nsIn K mainGlobals "_law_draws" = some (some (.ref f24))) (l24 : K.lookup f24 = some ⟨oc24, od24, .func (PySem.W.fnOf "_law_draws" "_law_draws" (defArgs s_law_draws) (defBody s_law_draws) (defScope s_law_draws) .none kV24 dc24 pm24 an24 cd24 ct24), sl24⟩) (c24 : PySem.W.codeIn K cd24 "_law_draws" = true) (k24 : PySem.W.keepIn K (.ref f24) = true)
    (a25 : PySem.W.nsIn K mainGlobals "_law_pop" = some (some (.ref f25))) (l25 : K.lookup f25 = some ⟨oc25, od25, .func (PySem.W.fnOf "_law_pop" "_law_pop" (defArgs s_law_pop) (defBody s_law_pop) (defScope s_law_pop) .none kV25 dc25 pm25 an25 cd25 ct25), sl25⟩) (c25 : PySem.W.codeIn K cd25 "_law_pop" = true) (k25 : PySem.W.keepIn K (.ref f25) = true)
    (a26 : PySem.W.nsIn K mainGlobals "_law_want" = some (some (.ref f26))) (l26 : K.lookup f26 = some ⟨oc26, od26, .func (PySem.W.fnOf "_law_want" "_law_want" (defArgs s_law_want) (defBody s_law_want) (defScope s_law_want) .none kV26 dc26 pm26 an26 cd26 ct26), sl26⟩) (c26 : PySem.W.codeIn K cd26 "_law_want" = true) (k26 : PySem.W.keepIn K (.ref f26) = true)
    (a27 : PySem.W.nsIn K mainGlobals "_law_cases" = some (some (.ref f27))) (l27 : K.lookup f27 = some ⟨oc27, od27, .func (PySem.W.fnOf "_law_cases" "_law_cases" (defArgs s_law_cases) (defBody s_law_cases) (defScope s_law_cases) .none kV27 dc27 pm27 an27 cd27 ct27), sl27⟩) (c27 : PySem.W.codeIn K cd27 "_law_cases" = true) (k27 : PySem.W.keepIn K (.ref f27) = true)
    (a28 : PySem.W.nsIn K mainGlobals "_law_content" = some (some (.ref f28))) (l28 : K.lookup f28 = some ⟨oc28, od28, .func (PySem.W.fnOf "_law_content" "_law_content" (defArgs s_law_content) (defBody s_law_content) (defScope s_law_content) .none kV28 dc28 pm28 an28 cd28 ct28), sl28⟩) (c28 : PySem.W.codeIn K cd28 "_law_content" = true) (k28 : PySem.W.keepIn K (.ref f28) = true)
    (a29 : PySem.W.nsIn K mainGlobals "_law_price" = some (some (.ref f29))) (l29 : K.lookup f29 = some ⟨oc29, od29, .func (PySem.W.fnOf "_law_price" "_law_price" (defArgs s_law_price) (defBody s_law_price) (defScope s_law_price) .none kV29 dc29 pm29 an29 cd29 ct29), sl29⟩) (c29 : PySem.W.codeIn K cd29 "_law_price" = true) (k29 : PySem.W.keepIn K (.ref f29) = true)
    (a30 : PySem.W.nsIn K mainGlobals "_law_tiers" = some (some (.ref f30))) (l30 : K.lookup f30 = some ⟨oc30, od30, .func (PySem.W.fnOf "_law_tiers" "_law_tiers" (defArgs s_law_tiers) (defBody s_law_tiers) (defScope s_law_tiers) .none kV30 dc30 pm30 an30 cd30 ct30), sl30⟩) (c30 : PySem.W.codeIn K cd30 "_law_tiers" = true) (k30 : PySem.W.keepIn K (.ref f30) = true)
    (a31 : PySem.W.nsIn K mainGlobals "_law_shop" = some (some (.ref f31))) (l31 : K.lookup f31 = some ⟨oc31, od31, .func (PySem.W.fnOf "_law_shop" "_law_shop" (defArgs s_law_shop) (defBody s_law_shop) (defScope s_law_shop) .none kV31 dc31 pm31 an31 cd31 ct31), sl31⟩) (c31 : PySem.W.codeIn K cd31 "_law_shop" = true) (k31 : PySem.W.keepIn K (.ref f31) = true)
    (a32 : PySem.W.nsIn K mainGlobals "_law_which" = some (some (.ref f32))) (l32 : K.lookup f32 = some ⟨oc32, od32, .func (PySem.W.fnOf "_law_which" "_law_which" (defArgs s_law_which) (defBody s_law_which) (defScope s_law_which) .none kV32 dc32 pm32 an32 cd32 ct32), sl32⟩) (c32 : PySem.W.codeIn K cd32 "_law_which" = true) (k32 : PySem.W.keepIn K (.ref f32) = true)
    (a33 : PySem.W.nsIn K mainGlobals "_law_asked_first" = some (some (.ref f33))) (l33 : K.lookup f33 = some ⟨oc33, od33, .func (PySem.W.fnOf "_law_asked_first" "_law_asked_first" (defArgs s_law_asked_first) (defBody s_law_asked_first) (defScope s_law_asked_first) .none kV33 dc33 pm33 an33 cd33 ct33), sl33⟩) (c33 : PySem.W.codeIn K cd33 "_law_asked_first" = true) (k33 : PySem.W.keepIn K (.ref f33) = true)
    (a34 : PySem.W.nsIn K mainGlobals "_law_asked" = some (some (.ref f34))) (l34 : K.lookup f34 = some ⟨oc34, od34, .func (PySem.W.fnOf "_law_asked" "_law_asked" (defArgs s_law_asked) (defBody s_law_asked) (defScope s_law_asked) .none kV34 dc34 pm34 an34 cd34 ct34), sl34⟩) (c34 : PySem.W.codeIn K cd34 "_law_asked" = true) (k34 : PySem.W.keepIn K (.ref f34) = true)
    (a35 : PySem.W.nsIn K mainGlobals "_law_refused" = some (some (.ref f35))) (l35 : K.lookup f35 = some ⟨oc35, od35, .func (PySem.W.fnOf "_law_refused" "_law_refused" (defArgs s_law_refused) (defBody s_law_refused) (defScope s_law_refused) .none kV35 dc35 pm35 an35 cd35 ct35), sl35⟩) (c35 : PySem.W.codeIn K cd35 "_law_refused" = true) (k35 : PySem.W.keepIn K (.ref f35) = true)
    (lc3 : K.lookup cT3 = some ⟨eT3, dT3, .fields vT3, sT3⟩) (hv3 : vT3[11]? = some (.ref PT3)) (nt3 : (K.lookup PT3).isNone = true) (rc3 : ((recsOf q).find? fun e => e.name == ("good_tiers" : Str)).isSome = true)
    (z1 : PySem.W.nsIn K mainGlobals "len" = some none)
    (z2 : PySem.W.nsIn K mainGlobals "range" = some none)
    (z3 : PySem.W.nsIn K mainGlobals "max" = some none)
    (z4 : PySem.W.nsIn K mainGlobals "list" = some none)
    (z5 : PySem.W.nsIn K mainGlobals "isinstance" = some none)
    (z6 : PySem.W.nsIn K mainGlobals "int" = some none)
    (z7 : PySem.W.nsIn K mainGlobals "bool" = some none)
    (z8 : PySem.W.nsIn K mainGlobals "enumerate" = some none)
    (z9 : PySem.W.nsIn K mainGlobals "all" = some none)
    (z10 : PySem.W.nsIn K mainGlobals "zip" = some none)
    (z11 : PySem.W.nsIn K mainGlobals "reversed" = some none)
    (z12 : PySem.W.nsIn K mainGlobals "sum" = some none)
    {tk1 : Tok} (q1 : PySem.W.nsIn K mainGlobals "MOST_TIERS" = some (some (.int 4 tk1)))
    {tk2 : Tok} (q2 : PySem.W.nsIn K mainGlobals "MOST_PIECES" = some (some (.int 12 tk2)))
    : LamX.LawAtS l w K CX0 10 63 "_law_script" mg fa h := by
  have e := hfa.symm.trans (PySem.W.mg_of X G a1)
  cases e
  have F1 := fun_mk (st := s_law) l1 c1 k1
  have b1 := F1.binds (ps := ["_law_script"]) fun _ _ _ _ _ _ us hl => match us, hl with | [_], _ => rfl
  have F2 := fun_mk (st := s_names_pack) l2 c2 k2
  have b2 := F2.binds (ps := ["shop", "at"]) fun _ _ _ _ _ _ us hl => match us, hl with | [_, _], _ => rfl
  have F3 := fun_mk (st := s_good_tiers) l3 c3 k3
  have b3 := F3.binds (ps := ["tiers"]) fun _ _ _ _ _ _ us hl => match us, hl with | [_], _ => rfl
  have F4 := fun_mk (st := s_can_stand) l4 c4 k4
  have b4 := F4.binds (ps := ["shop", "at"]) fun _ _ _ _ _ _ us hl => match us, hl with | [_, _], _ => rfl
  have F5 := fun_mk (st := s_look) l5 c5 k5
  have b5 := F5.binds (ps := ["shop"]) fun _ _ _ _ _ _ us hl => match us, hl with | [_], _ => rfl
  have F6 := fun_mk (st := s_lines) l6 c6 k6
  have b6 := F6.binds (ps := ["shop"]) fun _ _ _ _ _ _ us hl => match us, hl with | [_], _ => rfl
  have F7 := fun_mk (st := s_priced_lines) l7 c7 k7
  have b7 := F7.binds (ps := ["shop"]) fun _ _ _ _ _ _ us hl => match us, hl with | [_], _ => rfl
  have F8 := fun_mk (st := s_line_content) l8 c8 k8
  have b8 := F8.binds (ps := ["shop", "line"]) fun _ _ _ _ _ _ us hl => match us, hl with | [_, _], _ => rfl
  have F9 := fun_mk (st := s_line_price) l9 c9 k9
  have b9 := F9.binds (ps := ["shop", "line"]) fun _ _ _ _ _ _ us hl => match us, hl with | [_, _], _ => rfl
  have F10 := fun_mk (st := s_bought) l10 c10 k10
  have b10 := F10.binds (ps := ["shop", "purchase"]) fun _ _ _ _ _ _ us hl => match us, hl with | [_, _], _ => rfl
  have F11 := fun_mk (st := s_all_steps) l11 c11 k11
  have b11 := F11.binds (ps := ["priced", "want"]) fun _ _ _ _ _ _ us hl => match us, hl with | [_, _], _ => rfl
  have F12 := fun_mk (st := s_cheapest) l12 c12 k12
  have b12 := F12.binds (ps := ["priced", "want"]) fun _ _ _ _ _ _ us hl => match us, hl with | [_, _], _ => rfl
  have F13 := fun_mk (st := s_least) l13 c13 k13
  have b13 := F13.binds (ps := ["shop", "want"]) fun _ _ _ _ _ _ us hl => match us, hl with | [_, _], _ => rfl
  have F14 := fun_mk (st := s_cases) l14 c14 k14
  have b14 := F14.binds (ps := ["shop", "want"]) fun _ _ _ _ _ _ us hl => match us, hl with | [_, _], _ => rfl
  have F15 := fun_mk (st := s_shows) l15 c15 k15
  have b15 := F15.binds (ps := ["shop", "want", "table"]) fun _ _ _ _ _ _ us hl => match us, hl with | [_, _, _], _ => rfl
  have F16 := fun_mk (st := s_without) l16 c16 k16
  have b16 := F16.binds (ps := ["priced", "place"]) fun _ _ _ _ _ _ us hl => match us, hl with | [_, _], _ => rfl
  have F17 := fun_mk (st := s_spared) l17 c17 k17
  have b17 := F17.binds (ps := ["shop"]) fun _ _ _ _ _ _ us hl => match us, hl with | [_], _ => rfl
  have F18 := fun_mk (st := s_thinned) l18 c18 k18
  have b18 := F18.binds (ps := ["shop"]) fun _ _ _ _ _ _ us hl => match us, hl with | [_], _ => rfl
  have F19 := fun_mk (st := s_moves) l19 c19 k19
  have b19 := F19.binds (ps := ["shop", "want", "place"]) fun _ _ _ _ _ _ us hl => match us, hl with | [_, _, _], _ => rfl
  have F20 := fun_mk (st := s_fair) l20 c20 k20
  have b20 := F20.binds (ps := ["shop", "prices"]) fun _ _ _ _ _ _ us hl => match us, hl with | [_, _], _ => rfl
  have F21 := fun_mk (st := s_single_prices) l21 c21 k21
  have b21 := F21.binds (ps := ["shop", "want"]) fun _ _ _ _ _ _ us hl => match us, hl with | [_, _], _ => rfl
  have F22 := fun_mk (st := s_hold_together) l22 c22 k22
  have b22 := F22.binds (ps := ["shop", "want", "told"]) fun _ _ _ _ _ _ us hl => match us, hl with | [_, _, _], _ => rfl
  have F23 := fun_mk (st := s_show_shop) l23 c23 k23
  have b23 := F23.binds (ps := ["names", "shop"]) fun _ _ _ _ _ _ us hl => match us, hl with | [_, _], _ => rfl
  have F24 := fun_mk (st := s_law_draws) l24 c24 k24
  have b24 := F24.binds (ps := ["_law_script", "_law_turn", "_law_many"]) fun _ _ _ _ _ _ us hl => match us, hl with | [_, _, _], _ => rfl
  have F25 := fun_mk (st := s_law_pop) l25 c25 k25
  have b25 := F25.binds (ps := ["_law_draws_here"]) fun _ _ _ _ _ _ us hl => match us, hl with | [_], _ => rfl
  have F26 := fun_mk (st := s_law_want) l26 c26 k26
  have b26 := F26.binds (ps := ["_law_draws_here", "_law_many"]) fun _ _ _ _ _ _ us hl => match us, hl with | [_, _], _ => rfl
  have F27 := fun_mk (st := s_law_cases) l27 c27 k27
  have b27 := F27.binds (ps := ["_law_want_here"]) fun _ _ _ _ _ _ us hl => match us, hl with | [_], _ => rfl
  have F28 := fun_mk (st := s_law_content) l28 c28 k28
  have b28 := F28.binds (ps := ["_law_draws_here", "_law_many"]) fun _ _ _ _ _ _ us hl => match us, hl with | [_, _], _ => rfl
  have F29 := fun_mk (st := s_law_price) l29 c29 k29
  have b29 := F29.binds (ps := ["_law_draws_here"]) fun _ _ _ _ _ _ us hl => match us, hl with | [_], _ => rfl
  have F30 := fun_mk (st := s_law_tiers) l30 c30 k30
  have b30 := F30.binds (ps := ["_law_draws_here"]) fun _ _ _ _ _ _ us hl => match us, hl with | [_], _ => rfl
  have F31 := fun_mk (st := s_law_shop) l31 c31 k31
  have b31 := F31.binds (ps := ["_law_draws_here", "_law_many", "_law_most"]) fun _ _ _ _ _ _ us hl => match us, hl with | [_, _, _], _ => rfl
  have F32 := fun_mk (st := s_law_which) l32 c32 k32
  have b32 := F32.binds (ps := ["_law_e"]) fun _ _ _ _ _ _ us hl => match us, hl with | [_], _ => rfl
  have F33 := fun_mk (st := s_law_asked_first) l33 c33 k33
  have b33 := F33.binds (ps := ["_law_way", "_law_shop_here"]) fun _ _ _ _ _ _ us hl => match us, hl with | [_, _], _ => rfl
  have F34 := fun_mk (st := s_law_asked) l34 c34 k34
  have b34 := F34.binds (ps := ["_law_way", "_law_shop_here", "_law_want_here"]) fun _ _ _ _ _ _ us hl => match us, hl with | [_, _, _], _ => rfl
  have F35 := fun_mk (st := s_law_refused) l35 c35 k35
  have b35 := F35.binds (ps := ["_law_way", "_law_shop_here", "_law_want_here", "_law_place"]) fun _ _ _ _ _ _ us hl => match us, hl with | [_, _, _, _], _ => rfl
  have FI := fun_mk (st := s_ninit) xlI xcI xkI
  have bI := FI.binds (ps := ["self", "place"]) fun _ _ _ _ _ _ us hl => match us, hl with | [_, _], _ => rfl
  have X0 : Exs K mg C CP fI _ := ⟨PySem.W.mg_of X G xaC, PySem.W.mg_of X G xaP, ⟨⟨nmC, qC, NC, bsC, _, snC, subC, abC, colC, ddC, mC0, mC1, mC2, mC3, mC5, xL, (show PySem.HandSPX.refsVE [.type "ValueError", .type "Exception", .type "BaseException", .type "object"] = true by decide +kernel)⟩, xsa, xex, xty, xkC⟩, xrP, xgP, xvP, xnp, xiC, xtI, FI, bI, ⟨xhg, xhk, xex, xhd, xha, xhn, xht, xhm⟩, ⟨xhg, xhk, xex, xhd⟩⟩
  have Y0 : ExKit K mg C CP := ⟨⟨_, PySem.W.mg_of X G xaNoLine, xkNoLine⟩, ⟨_, PySem.W.mg_of X G xaNoPlace, xkNoPlace⟩, ⟨_, PySem.W.mg_of X G xaNoText, xkNoText⟩, ⟨_, PySem.W.mg_of X G xaNoThings, xkNoThings⟩, PySem.W.mg_none_of X G xv, xkv, xkp, xkn, xem⟩
  have M : Names mg := ⟨PySem.W.mg_none_of X G z1, PySem.W.mg_none_of X G z2, PySem.W.mg_none_of X G z3, PySem.W.mg_none_of X G z4, PySem.W.mg_none_of X G z5, PySem.W.mg_none_of X G z6, PySem.W.mg_none_of X G z7, PySem.W.mg_none_of X G z8, PySem.W.mg_none_of X G z9, PySem.W.mg_none_of X G z10, PySem.W.mg_none_of X G z11, PySem.W.mg_none_of X G z12, ⟨_, PySem.W.mg_of X G q1⟩, ⟨_, PySem.W.mg_of X G q2⟩⟩
  obtain ⟨hd3, ht3⟩ := tabs "good_tiers" cT3 PT3 rc3 (tabIn_of a3 l3 rfl lc3 hv3)
  refine ⟨PySem.W.fnOf "law" "law" (defArgs s_law) (defBody s_law) (defScope s_law) .none kV1 dc1 pm1 an1 cd1 ct1, [(cT3, PT3)], sp_law K PT3, ?hT, ?nT, ?hC, fun s v => .of_eq rfl, fun H a ns hl _ hT hS => ⟨a, ns, rfl, hS, hl, ⟨#[], hT (cT3, PT3) List.mem_cons_self, True.intro⟩, fun _ => rfl⟩, fun base _ _ hB => ?_⟩
  case hT =>
    exact fun p hp => by
      rcases List.mem_cons.mp hp with rfl | hp
      · exact ht3
      cases hp
  case nT =>
    exact fun p hp => by
      rcases List.mem_cons.mp hp with rfl | hp
      · exact Option.isNone_iff_eq_none.mp nt3
      cases hp
  case hC =>
    exact fun p hp => by
      rcases List.mem_cons.mp hp with rfl | hp
      · exact hd3
      cases hp
  have T3 := hB (cT3, PT3) List.mem_cons_self
  exact ok_law M ⟨F1, PySem.W.mg_of X G a1, b1⟩ ⟨F2, PySem.W.mg_of X G a2, b2⟩ ⟨F3, PySem.W.mg_of X G a3, b3⟩ ⟨F4, PySem.W.mg_of X G a4, b4⟩ ⟨F5, PySem.W.mg_of X G a5, b5⟩ ⟨F6, PySem.W.mg_of X G a6, b6⟩ ⟨F7, PySem.W.mg_of X G a7, b7⟩ ⟨F8, PySem.W.mg_of X G a8, b8⟩ ⟨F9, PySem.W.mg_of X G a9, b9⟩ ⟨F10, PySem.W.mg_of X G a10, b10⟩ ⟨F11, PySem.W.mg_of X G a11, b11⟩ ⟨F12, PySem.W.mg_of X G a12, b12⟩ ⟨F13, PySem.W.mg_of X G a13, b13⟩ ⟨F14, PySem.W.mg_of X G a14, b14⟩ ⟨F15, PySem.W.mg_of X G a15, b15⟩ ⟨F16, PySem.W.mg_of X G a16, b16⟩ ⟨F17, PySem.W.mg_of X G a17, b17⟩ ⟨F18, PySem.W.mg_of X G a18, b18⟩ ⟨F19, PySem.W.mg_of X G a19, b19⟩ ⟨F20, PySem.W.mg_of X G a20, b20⟩ ⟨F21, PySem.W.mg_of X G a21, b21⟩ ⟨F22, PySem.W.mg_of X G a22, b22⟩ ⟨F23, PySem.W.mg_of X G a23, b23⟩ ⟨F24, PySem.W.mg_of X G a24, b24⟩ ⟨F25, PySem.W.mg_of X G a25, b25⟩ ⟨F26, PySem.W.mg_of X G a26, b26⟩ ⟨F27, PySem.W.mg_of X G a27, b27⟩ ⟨F28, PySem.W.mg_of X G a28, b28⟩ ⟨F29, PySem.W.mg_of X G a29, b29⟩ ⟨F30, PySem.W.mg_of X G a30, b30⟩ ⟨F31, PySem.W.mg_of X G a31, b31⟩ ⟨F32, PySem.W.mg_of X G a32, b32⟩ ⟨F33, PySem.W.mg_of X G a33, b33⟩ ⟨F34, PySem.W.mg_of X G a34, b34⟩ ⟨F35, PySem.W.mg_of X G a35, b35⟩ rfl ⟨T3.code, T3.bm, T3.gP⟩ X0 Y0
end Pk
open PySem PySem.W PyProof.Rows
set_option maxHeartbeats 0 in
theorem PySem.Challenge.cw_packwants_k09_no_offer_at_every_door_holds : PySem.Challenge.rw_packwants_k09_no_offer_at_every_door.Holds := by
  w_on; o_law; k_head; (case hw => w_witness2)
  k_fill
  refine Pk.walk_ofG (l := PySem.Challenge.rw_packwants_k09_no_offer_at_every_door) (n := 63) (k := 10) (x := "_law_script") (CX := fun _ => L2.CX0) rfl (by decide) rfl ⟨rfl, by decide, by decide⟩ (fun w h Y => PySem.W.kIn_of Y) ?F (fun _ _ _ _ _ h => h)
  case F =>
    intro w mg fa h KX G hmg tabs
    refine' Pk.all_mk KX G hmg tabs ?xaC ?xaP ?xL ?xsa ?xex ?xty ?xkC ?xrP ?xgP ?xvP ?xnp ?xiC ?xtI ?xlI ?xcI ?xkI ?xhg ?xhk ?xhd ?xha ?xhn ?xht ?xhm ?xv ?xkv ?xkp ?xkn ?xem ?xaNoLine ?xkNoLine ?xaNoPlace ?xkNoPlace ?xaNoText ?xkNoText ?xaNoThings ?xkNoThings ?a1 ?l1 ?c1 ?k1 ?a2 ?l2 ?c2 ?k2 ?a3 ?l3 ?c3 ?k3 ?a4 ?l4 ?c4 ?k4 ?a5 ?l5 ?c5 ?k5 ?a6 ?l6 ?c6 ?k6 ?a7 ?l7 ?c7 ?k7 ?a8 ?l8 ?c8 ?k8 ?a9 ?l9 ?c9 ?k9 ?a10 ?l10 ?c10 ?k10 ?a11 ?l11 ?c11 ?k11 ?a12 ?l12 ?c12 ?k12 ?a13 ?l13 ?c13 ?k13 ?a14 ?l14 ?c14 ?k14 ?a15 ?l15 ?c15 ?k15 ?a16 ?l16 ?c16 ?k16 ?a17 ?l17 ?c17 ?k17 ?a18 ?l18 ?c18 ?k18 ?a19 ?l19 ?c19 ?k19 ?a20 ?l20 ?c20 ?k20 ?a21 ?l21 ?c21 ?k21 ?a22 ?l22 ?c22 ?k22 ?a23 ?l23 ?c23 ?k23 ?a24 ?l24 ?c24 ?k24 ?a25 ?l25 ?c25 ?k25 ?a26 ?l26 ?c26 ?k26 ?a27 ?l27 ?c27 ?k27 ?a28 ?l28 ?c28 ?k28 ?a29 ?l29 ?c29 ?k29 ?a30 ?l30 ?c30 ?k30 ?a31 ?l31 ?c31 ?k31 ?a32 ?l32 ?c32 ?k32 ?a33 ?l33 ?c33 ?k33 ?a34 ?l34 ?c34 ?k34 ?a35 ?l35 ?c35 ?k35 ?lc3 ?hv3 ?nt3 ?rc3 ?z1 ?z2 ?z3 ?z4 ?z5 ?z6 ?z7 ?z8 ?z9 ?z10 ?z11 ?z12 ?q1 ?q2
    (case xaC => first | k_is | rfl); (case xaP => first | k_is | rfl); (case xL => first | k_is | rfl); (case xsa => first | k_is | rfl); (case xex => first | k_is | rfl); (case xty => first | k_is | rfl); (case xkC => first | k_is | rfl); (case xrP => first | k_is | rfl); (case xgP => first | k_is | rfl); (case xvP => first | k_is | rfl); (case xnp => first | k_is | rfl); (case xiC => first | k_is | rfl); (case xtI => first | k_is | rfl); (case xlI => first | k_is | rfl); (case xcI => first | k_is | rfl); (case xkI => first | k_is | rfl); (case xhg => first | k_is | rfl); (case xhk => first | k_is | rfl); (case xhd => first | k_is | rfl); (case xha => first | k_is | rfl); (case xhn => first | k_is | rfl); (case xht => first | k_is | rfl); (case xhm => first | k_is | rfl); (case xv => first | k_is | rfl); (case xkv => first | k_is | rfl); (case xkp => first | k_is | rfl); (case xkn => first | k_is | rfl); (case xem => first | k_is | rfl); (case xaNoLine => first | k_is | rfl); (case xkNoLine => first | k_is | rfl); (case xaNoPlace => first | k_is | rfl); (case xkNoPlace => first | k_is | rfl); (case xaNoText => first | k_is | rfl); (case xkNoText => first | k_is | rfl); (case xaNoThings => first | k_is | rfl); (case xkNoThings => first | k_is | rfl)
    (case a1 => k_is); (case l1 => k_is); (case c1 => k_is); (case k1 => k_is); (case a2 => k_is); (case l2 => k_is); (case c2 => k_is); (case k2 => k_is); (case a3 => k_is); (case l3 => k_is); (case c3 => k_is); (case k3 => k_is); (case a4 => k_is); (case l4 => k_is); (case c4 => k_is); (case k4 => k_is); (case a5 => k_is); (case l5 => k_is); (case c5 => k_is); (case k5 => k_is); (case a6 => k_is); (case l6 => k_is); (case c6 => k_is); (case k6 => k_is); (case a7 => k_is); (case l7 => k_is); (case c7 => k_is); (case k7 => k_is); (case a8 => k_is); (case l8 => k_is); (case c8 => k_is); (case k8 => k_is); (case a9 => k_is); (case l9 => k_is); (case c9 => k_is); (case k9 => k_is); (case a10 => k_is); (case l10 => k_is); (case c10 => k_is); (case k10 => k_is); (case a11 => k_is); (case l11 => k_is); (case c11 => k_is); (case k11 => k_is); (case a12 => k_is); (case l12 => k_is); (case c12 => k_is); (case k12 => k_is); (case a13 => k_is); (case l13 => k_is); (case c13 => k_is); (case k13 => k_is); (case a14 => k_is); (case l14 => k_is); (case c14 => k_is); (case k14 => k_is); (case a15 => k_is); (case l15 => k_is); (case c15 => k_is); (case k15 => k_is); (case a16 => k_is); (case l16 => k_is); (case c16 => k_is); (case k16 => k_is); (case a17 => k_is); (case l17 => k_is); (case c17 => k_is); (case k17 => k_is); (case a18 => k_is); (case l18 => k_is); (case c18 => k_is); (case k18 => k_is); (case a19 => k_is); (case l19 => k_is); (case c19 => k_is); (case k19 => k_is); (case a20 => k_is); (case l20 => k_is); (case c20 => k_is); (case k20 => k_is); (case a21 => k_is); (case l21 => k_is); (case c21 => k_is); (case k21 => k_is); (case a22 => k_is); (case l22 => k_is); (case c22 => k_is); (case k22 => k_is); (case a23 => k_is); (case l23 => k_is); (case c23 => k_is); (case k23 => k_is); (case a24 => k_is); (case l24 => k_is); (case c24 => k_is); (case k24 => k_is); (case a25 => k_is); (case l25 => k_is); (case c25 => k_is); (case k25 => k_is); (case a26 => k_is); (case l26 => k_is); (case c26 => k_is); (case k26 => k_is); (case a27 => k_is); (case l27 => k_is); (case c27 => k_is); (case k27 => k_is); (case a28 => k_is); (case l28 => k_is); (case c28 => k_is); (case k28 => k_is); (case a29 => k_is); (case l29 => k_is); (case c29 => k_is); (case k29 => k_is); (case a30 => k_is); (case l30 => k_is); (case c30 => k_is); (case k30 => k_is); (case a31 => k_is); (case l31 => k_is); (case c31 => k_is); (case k31 => k_is); (case a32 => k_is); (case l32 => k_is); (case c32 => k_is); (case k32 => k_is); (case a33 => k_is); (case l33 => k_is); (case c33 => k_is); (case k33 => k_is); (case a34 => k_is); (case l34 => k_is); (case c34 => k_is); (case k34 => k_is); (case a35 => k_is); (case l35 => k_is); (case c35 => k_is); (case k35 => k_is); (case lc3 => k_is); (case hv3 => rfl); (case nt3 => rfl); (case rc3 => rfl); (case z1 => k_is); (case z2 => k_is); (case z3 => k_is); (case z4 => k_is); (case z5 => k_is); (case z6 => k_is); (case z7 => k_is); (case z8 => k_is); (case z9 => k_is); (case z10 => k_is); (case z11 => k_is); (case z12 => k_is); (case q1 => k_is); (case q2 => k_is)
